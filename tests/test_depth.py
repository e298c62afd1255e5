"""The depth-first order, early uses, calm and settled schemas: points [50] to [52]."""

import copy
import itertools
import random
import unittest

from halfbuilt.depth import calm, early, order, settled
from halfbuilt.errors import BadRoots, NoOrder, NotSound
from halfbuilt.every import decided
from halfbuilt.graphs import Graph
from halfbuilt.plans import is_cycle, is_plan
from halfbuilt.schemas import Schema
from tests import reference
from tests.samples import CELLS, ODD_VALUES, PAIRS, ROWS

ODD = Schema([
    ("box", (("items", "later", "set", ("pair",)),), "own"),
    ("pair", (("back", "later", "one", ("box",)), ("tag", "later", "one", ("",))), ("tag",)),
])
ODD_GRAPH = Graph(ODD, {"b": ("box", (("p",),)), "p": ("pair", ("b", 7))})
ALL = ("", "a", "b")
FORMS = Schema([
    ("a", (("fr", "first", "row", ALL), ("lr", "later", "row", ALL), ("fs", "first", "set", ALL),
           ("lo", "later", "one", ALL)), "own"),
    ("b", (("ls", "later", "set", ALL), ("lr", "later", "row", ALL)), ("lr",)),
])
MANY_USES = Schema([
    ("a", (("s", "later", "set", ("a", "b")), ("r", "later", "row", ("", "a", "b"))), ("r",)),
    ("b", (("f", "first", "set", ("", "a")), ("w", "later", "row", ("a", "b")), ("n", "later", "one", ("", "a"))),
     ("n",)),
])
# Not sound; and a ring of makes that nothing reaches from "p".
ENDLESS = Graph(FORMS, {"p": ("b", (("q",), ())), "q": ("b", ((), ("q",)))})
RING = Graph(FORMS, {"p": ("b", ((), ())), "q": ("a", (("r",), (), (), 0)), "r": ("a", ((), (), ("q",), 0))})


def a_object(fr=(), lr=(), fs=(), lo=0):
    return ("a", (fr, lr, fs, lo))


def b_object(ls=(), lr=()):
    return ("b", (ls, lr))


def all_orders(schema):
    """The schemas with the slots of each class in all orders."""
    choices = [list(itertools.permutations(slots)) for _, slots, _ in schema.classes]
    for chosen in itertools.product(*choices):
        yield Schema([(name, slots, read) for (name, _, read), slots in zip(schema.classes, chosen)])


class DepthTest(unittest.TestCase):
    def refused(self, error, graph, roots):
        before = copy.deepcopy(roots), graph.objects
        found = []
        for ask in (order, early):
            with self.assertRaises(error) as caught:
                ask(graph, roots)
            found.append(getattr(caught.exception, "index", None))
        self.assertEqual((roots, graph.objects), before)
        self.assertEqual(found[0], found[1])
        return found[0]


class OrderTest(DepthTest):
    def check(self, graph, roots, *events):
        self.assertEqual(order(graph, roots), list(events))
        self.assertEqual(order(roots=tuple(roots), graph=graph), list(events))

    def test_no_roots(self):
        self.check(ODD_GRAPH, [])
        self.check(Graph(ODD, {}), [])

    def test_words_are_saved_before_they_are_put_in(self):
        self.check(ODD_GRAPH, ["p"], ("make", "p"), ("make", "b"), ("put", "b", "items", 0), ("put", "p", "back", 0),
                   ("put", "p", "tag", 0))
        self.check(ODD_GRAPH, ["b"], ("make", "b"), ("make", "p"), ("put", "p", "back", 0), ("put", "p", "tag", 0),
                   ("put", "b", "items", 0))

    def test_roots(self):
        graph = Graph(CELLS, {name: ("cell", (1,)) for name in "pqr"})
        one, other = (("make", "q"), ("put", "q", "value", 0)), (("make", "p"), ("put", "p", "value", 0))
        self.check(graph, ["q"], *one)
        self.check(graph, ["q", "p"], *one, *other)
        self.check(graph, ["p", "q"], *other, *one)
        self.check(graph, ["q", "q", "p", "q", "p"], *one, *other)

    def test_roots_that_others_lead_to(self):
        self.check(ODD_GRAPH, ["b", "p"], *order(ODD_GRAPH, ["b"]))
        self.check(ODD_GRAPH, ["p", "b"], *order(ODD_GRAPH, ["p"]))

    def test_first_slots_in_the_order_of_the_class(self):
        graph = Graph(FORMS, {"p": a_object(fr=("s", 1, "q", "s"), fs=(2, "r", "t")), "q": b_object(), "r": b_object(),
                              "s": b_object(), "t": b_object()})
        self.check(graph, ["p"], ("make", "s"), ("make", "q"), ("make", "r"), ("make", "t"), ("make", "p"),
                   ("put", "p", "lo", 0))

    def test_later_slots_word_by_word(self):
        graph = Graph(FORMS, {"p": b_object(ls=(3, "q", "t"), lr=("r", 4, "q", "r")), "q": b_object(lr=(1,)),
                              "r": b_object(), "t": b_object(ls=("u",)), "u": b_object()})
        self.check(graph, ["p"], ("make", "p"), ("put", "p", "ls", 0), ("make", "q"), ("put", "q", "lr", 0),
                   ("put", "p", "ls", 1), ("make", "t"), ("make", "u"), ("put", "t", "ls", 0), ("put", "p", "ls", 2),
                   ("make", "r"), ("put", "p", "lr", 0), ("put", "p", "lr", 1), ("put", "p", "lr", 2),
                   ("put", "p", "lr", 3))

    def test_slots_in_the_order_of_the_class_not_by_name(self):
        slots = (("z", "later", "one", ("",)), ("y", "first", "row", ("b",)), ("b", "later", "one", ("",)),
                 ("c", "first", "row", ("b",)))
        schema = Schema([("a", slots, "own"), ("b", (), "own")])
        graph = Graph(schema, {"p": ("a", (0, ("r",), 0, ("q",))), "q": ("b", ()), "r": ("b", ())})
        self.check(graph, ["p"], ("make", "r"), ("make", "q"), ("make", "p"), ("put", "p", "z", 0),
                   ("put", "p", "b", 0))

    def test_made_meanwhile(self):
        # To make p, q is saved first; q's later word is p, which is made then, as q is made.
        graph = Graph(FORMS, {"p": a_object(fr=("q",), lr=(1,)), "q": a_object(lr=("p",), lo=2)})
        self.check(graph, ["p"], ("make", "q"), ("make", "p"), ("put", "p", "lr", 0), ("put", "p", "lo", 0),
                   ("put", "q", "lr", 0), ("put", "q", "lo", 0))
        self.check(graph, ["q"], *order(graph, ["p"]))

    def test_first_words_that_are_saved_meanwhile(self):
        # r is a first word of p behind q, and it is saved for the p that q's later slot asks for.
        graph = Graph(FORMS, {"p": a_object(fr=("q", "r")), "q": a_object(lr=("p", "s")), "r": a_object(lr=("q",)),
                              "s": a_object(fr=("p",))})
        self.check(graph, ["p"], ("make", "q"), ("make", "r"), ("put", "r", "lr", 0), ("put", "r", "lo", 0),
                   ("make", "p"), ("put", "p", "lo", 0), ("put", "q", "lr", 0), ("make", "s"), ("put", "s", "lo", 0),
                   ("put", "q", "lr", 1), ("put", "q", "lo", 0))

    def test_only_what_roots_lead_to(self):
        graph = Graph(FORMS, {"p": b_object(), "q": b_object(lr=("p",))})
        self.check(graph, ["p"], ("make", "p"))

    def test_deep_graphs(self):
        names = sorted(first + second for first in "ab" for second in "cdefghijklmn")
        for form in ("first", "later"):
            schema = Schema([("a", (("to", form, "row", ("a",)), ("back", "later", "row", ("a",))), "own")])
            objects = {}
            for at, name in enumerate(names):
                objects[name] = ("a", (tuple(names[at + 1:at + 2]), (names[0], names[at // 2])))
            graph = Graph(schema, objects)
            self.assertEqual(order(graph, names[:1]), reference.depth_first(graph, names[:1])[0])
            self.assertEqual(len(order(graph, names)), len(reference.all_events(graph)))

    def test_all_small_graphs(self):
        slots = [("x", when, form, ("", "a")) for when in ("first", "later") for form in ("one", "set")]
        rest = [("y", when, form, ("a",)) for when in ("first", "later") for form in ("row", "set")]
        for one, other, read in itertools.product(slots, rest, ("own", ("x",))):
            schema = Schema([("a", (one, other), read)])
            for graph in reference.small_graphs(schema, "pq", 1):
                if reference.is_sound(graph) and reference.has_order(graph):
                    for roots in ("p", "q", "pq", "qp"):
                        self.assertEqual((order(graph, list(roots)), early(graph, list(roots))),
                                         reference.depth_first(graph, roots))

    def test_graphs_at_random(self):
        rng = random.Random(50)
        many = 0
        for at in range(400):
            # Few schemas have early uses; this one has many.
            schema = MANY_USES if at % 2 else reference.some_schema(rng)
            for graph in reference.some_graphs(rng, schema, (2, 3, 4, 5)):
                roots = [rng.choice(graph.names) for _ in range(rng.randint(0, 3))]
                if not reference.is_sound(graph):
                    self.refused(NotSound, graph, roots)
                elif not reference.has_order(graph):
                    self.refused(NoOrder, graph, roots)
                else:
                    events, uses = reference.depth_first(graph, roots)
                    self.assertEqual((order(graph, roots), early(graph, roots)), (events, uses))
                    many += bool(uses)
        self.assertGreater(many, 50)

    def test_returned_lists_are_new(self):
        order(ODD_GRAPH, ["p"]).clear()
        early(ODD_GRAPH, ["p"]).clear()
        self.assertEqual((len(order(ODD_GRAPH, ["p"])), len(early(ODD_GRAPH, ["p"]))), (5, 1))
        self.assertIs(type(order(ODD_GRAPH, ["p"])), list)
        self.assertIs(type(early(ODD_GRAPH, ["p"])), list)


class RefusedTest(DepthTest):
    def test_not_sound(self):
        for roots in (["p"], [], ["z"], None, "p", {"p": 1}):
            self.refused(NotSound, ENDLESS, roots)
        both = Graph(FORMS, {**ENDLESS.objects, **RING.objects, "p": ENDLESS.objects["p"], "q": ENDLESS.objects["q"],
                             "x": a_object(fr=("y",)), "y": a_object(fr=("x",))})
        for roots in (["x"], ["z"], []):
            self.refused(NotSound, both, roots)

    def test_bad_roots(self):
        for graph, names in ((ODD_GRAPH, "bp"), (RING, "pqr")):
            for value in [*ODD_VALUES, "p", "pb", {"p": 1}, {}, {"p": ["b"]}]:
                if value not in ([], ()):
                    self.assertEqual(self.refused(BadRoots, graph, value), 0)
            for value in [*ODD_VALUES, "z", "box", "pb", ["p"], ("p",), {"p": 1}]:
                self.assertEqual(self.refused(BadRoots, graph, [value]), 0)
                self.assertEqual(self.refused(BadRoots, graph, ("p", value)), 1)
                self.assertEqual(self.refused(BadRoots, graph, [*names, *names, value, "p", value]), 2 * len(names))

    def test_no_order(self):
        for roots in ([], ["p"], ["q"], ["r", "q"], ("p", "p")):
            self.refused(NoOrder, RING, roots)
        self.refused(NoOrder, Graph(ROWS, {"x": ("t", (("x",),)), "y": ("t", ((),))}), ["y"])
        # What leads to a ring of makes does not help either.
        self.refused(NoOrder, Graph(ROWS, {"x": ("t", (("y",),)), "y": ("t", (("y",),))}), ["x"])

    def test_rings_that_are_not_of_makes_alone(self):
        schema = Schema([("box", (("has", "first", "set", ("node",)),), "own"),
                         ("node", (("to", "later", "one", ("box",)),), ("to",))])
        graph = Graph(schema, {"b": ("box", (("n",),)), "n": ("node", ("b",))})
        self.assertFalse(reference.has_plan(graph))
        self.assertEqual(order(graph, ["b"]), [("make", "n"), ("make", "b"), ("put", "n", "to", 0)])
        self.assertEqual(early(graph, ["b"]), [("b", "has", "n")])
        self.assertEqual(early(graph, ["n"]), [("b", "has", "n")])


class EarlyTest(DepthTest):
    def check(self, graph, roots, *uses):
        self.assertEqual(early(graph, roots), list(uses))
        self.assertEqual(early(roots=tuple(roots), graph=graph), list(uses))
        self.assertEqual(reference.depth_first(graph, roots)[1], list(uses))
        events = tuple(order(graph, roots))
        if len(events) == len(reference.all_events(graph)):
            self.assertIs(is_plan(graph, events), not uses)

    def test_example(self):
        self.check(ODD_GRAPH, ["p"], ("b", "items", "p"))
        self.check(ODD_GRAPH, ["b"])
        self.check(ODD_GRAPH, [])
        self.check(ODD_GRAPH, ["b", "p"])

    def test_the_hash_reads_what_is_put_in_before(self):
        self.check(Graph(settled(ODD), {"b": ("box", (("p",),)), "p": ("pair", (7, "b"))}), ["p"])

    def test_makes_by_slots_and_words(self):
        schema = Schema([
            ("a", (("z", "first", "set", ("", "b")), ("r", "first", "row", ("b",)), ("y", "first", "set", ("b",)),
                   ("x", "later", "set", ("", "b"))), "own"),
            ("b", (("by", "later", "one", ("", "a", "b")), ("num", "later", "one", ("",))), ("num",))])
        graph = Graph(schema, {
            "p": ("a", ((1, "q", "s", "t"), ("s",), ("q", "t"), (2, "q", "s", "u"))),
            "q": ("b", ("s", 1)), "s": ("b", ("t", 1)), "t": ("b", ("p", 1)), "u": ("b", (0, 1))})
        for roots, uses in ((["p"], ("zq", "zs", "zt", "yq", "yt", "xq", "xs")), (["t"], ("zt", "yt")),
                            (["u", "s"], ("zs", "zt", "yt", "xs"))):
            self.check(graph, roots, *[("p", slot, word) for slot, word in uses])

    def test_by_further_claims(self):
        # m is in a set when p, which its hash reads by way of n, is not filled in.
        schema = Schema([("box", (("has", "later", "set", ("node",)),), "own"),
                         ("node", (("way", "later", "row", ("box",)), ("to", "later", "row", ("", "node"))), ("to",))])
        objects = {"b": ("box", (("m",),)), "m": ("node", ((), ("n",))), "n": ("node", ((), (3, "p"))),
                   "p": ("node", (("b",), (4, 5)))}
        self.check(Graph(schema, objects), ["p"], ("b", "has", "m"))
        self.check(Graph(schema, objects), ["m"], ("b", "has", "m"))
        self.check(Graph(schema, objects), ["b"])
        self.check(Graph(schema, {**objects, "p": ("node", (("b",), ()))}), ["p"])
        self.check(Graph(schema, {**objects, "n": ("node", ((), (3,)))}), ["p"])

    def test_rows_that_are_half_put_in(self):
        schema = Schema([("box", (("has", "later", "set", ("node",)),), "own"),
                         ("node", (("to", "later", "row", ("", "box")),), ("to",))])
        for row, uses in ((("b", 1), [("b", "has", "n")]), ((1, "b"), [("b", "has", "n")]), ((1, 2), [])):
            self.check(Graph(schema, {"b": ("box", (("n",),)), "n": ("node", (row,))}), ["n"], *uses)

    def test_rows_and_single_words_are_never_early(self):
        schema = Schema([("box", (("has", "later", "row", ("node",)), ("one", "first", "one", ("", "node"))), "own"),
                         ("node", (("to", "later", "row", ("box",)),), ("to",))])
        self.check(Graph(schema, {"b": ("box", (("n",), 0)), "n": ("node", (("b",),))}), ["n"])
        self.check(Graph(schema, {"b": ("box", ((), "n")), "n": ("node", (("b",),))}), ["n"])


class CalmTest(DepthTest):
    def check(self, schema):
        """Checks what the answer says, and returns its word."""
        answer = calm(schema)
        self.assertEqual(calm(schema=Schema(list(schema.classes))), answer)
        if decided(schema)[0] == "bad":
            self.assertEqual(answer, decided(schema))
            self.assertIs(is_cycle(*answer[1:]), True)
        elif answer[0] == "early":
            _, graph, roots = answer
            self.assertIs(type(graph), Graph)
            self.assertEqual(graph.schema, schema)
            self.assertIs(type(roots), tuple)
            self.assertTrue(reference.is_sound(graph))
            self.assertTrue(reference.has_order(graph))
            self.assertTrue(reference.depth_first(graph, roots)[1])
            self.assertEqual(early(graph, roots), reference.depth_first(graph, roots)[1])
        else:
            self.assertEqual(answer, ("calm", None))
        return answer[0]

    def answers(self, answer, *classes):
        self.assertEqual(self.check(Schema(list(classes))), answer)

    def test_examples(self):
        self.assertEqual(self.check(ODD), "early")
        self.assertEqual(self.check(settled(ODD)), "calm")
        self.assertEqual(self.check(ROWS), "bad")
        self.assertEqual(self.check(CELLS), "calm")
        # The tag of a pair is put in when the pair is made; its first slot is not waited for.
        self.assertEqual(self.check(PAIRS), "calm")

    def test_classes_without_slots(self):
        self.answers("calm", ("a", (), "own"))

    def node(self, *slots, read=("num",)):
        box = ("box", (("has", "later", "set", ("node",)),), "own")
        return Schema([box, ("node", slots, read)])

    def test_slots_that_are_read_and_stand_behind(self):
        num, way = ("num", "later", "one", ("",)), ("way", "later", "row", ("box",))
        self.assertEqual(self.check(self.node(way, num)), "early")
        self.assertEqual(self.check(self.node(num, way)), "calm")
        # What is first is there when the object is made.
        self.assertEqual(self.check(self.node(way, ("num", "first", "one", ("",)))), "calm")
        self.assertEqual(self.check(self.node(("way", "first", "row", ("box",)), num)), "calm")
        # A slot that the hash does not read is not waited for.
        self.assertEqual(self.check(self.node(way, num, read=())), "calm")
        self.assertEqual(self.check(self.node(way, num, read="own")), "calm")
        for form in ("one", "row", "set"):
            self.assertEqual(self.check(self.node(way, ("num", "later", form, ("",)))), "early")

    def test_slots_that_nothing_can_be_put_into(self):
        # Objects of "never" are in no object that can be a member.
        box, never = self.node(read=()).classes[0], ("never", (("to", "later", "one", ("never",)),), ("to",))
        for targets, answer in ((("never",), "calm"), (("", "never"), "early"), (("never", "z"), "early"),
                                (("z",), "early")):
            for form in ("row", "set"):
                node = ("node", (("way", "later", "row", ("box",)), ("num", "later", form, targets)), ("num",))
                self.answers(answer, box, never, node, ("z", (), "own"))

    def test_the_slot_of_the_chain_is_read_itself(self):
        self.assertEqual(self.check(self.node(("way", "later", "one", ("box",)), read=("way",))), "early")
        self.assertEqual(self.check(self.node(("way", "later", "set", ("box",)), read=("way",))), "early")
        # All slots of the chain are read: such objects hash one another in a ring.
        self.answers("calm", ("node", (("way", "later", "set", ("node",)),), ("way",)))
        self.answers("calm", ("box", (("has", "later", "set", ("node",)),), ("has",)),
                     ("node", (("way", "later", "row", ("box",)),), ("way",)))

    def test_chains_without_sets(self):
        self.answers("calm", ("box", (("has", "later", "row", ("node",)),), "own"),
                     ("node", (("way", "later", "one", ("box",)), ("num", "later", "one", ("",))), ("num",)))

    def test_the_set_is_the_first_slot_of_the_chain(self):
        for read, answer in ((("to",), "early"), (("num",), "calm"), (("num", "to"), "early")):
            self.answers(answer, ("a", (("has", "later", "set", ("b",)), ("num", "later", "one", ("",))), ("num",)),
                         ("b", (("num", "first", "one", ("",)), ("to", "later", "row", ("a",))), read))

    def test_sets_that_are_given_first(self):
        node = ("node", (("way", "later", "row", ("box",)), ("num", "later", "one", ("",))), ("num",))
        self.answers("early", ("box", (("has", "first", "set", ("node",)),), "own"), node)
        self.answers("early", ("box", (("has", "first", "row", ("hold",)),), "own"),
                     ("hold", (("by", "first", "set", ("node",)),), "own"), node)

    def test_long_chains(self):
        # The way leads through makes of all classes, then by a set and claims of all classes back.
        slots = [("way", "later", "one", ("", "b")), ("num", "later", "one", ("", "b"))]
        self.answers("early", ("a", tuple(slots), ("num",)),
                     ("b", (("way", "later", "one", ("", "c")), ("num", "first", "row", ("c",))), ("num",)),
                     ("c", (("way", "later", "one", ("", "d")), ("num", "first", "row", ("d",))), ("num",)),
                     ("d", (("way", "later", "set", ("", "b")), ("num", "later", "row", ("a",))), ("num",)))

    def test_bad_schemas(self):
        rng = random.Random(51)
        for _ in range(100):
            schema = reference.some_schema(rng, classes=4, likely=0.3)
            self.assertEqual(self.check(schema) == "bad", decided(schema)[0] == "bad")

    def test_returned_graphs_are_new(self):
        calm(ODD)[1].objects.clear()
        self.assertEqual(self.check(ODD), "early")

    def check_graphs(self, schema, graphs):
        """Compares the answer with these graphs: a calm schema has none with early uses."""
        if self.check(schema) == "calm":
            for graph in graphs:
                if reference.is_sound(graph):
                    self.assertTrue(reference.has_order(graph))
                    for roots in [*graph.names, *itertools.permutations(graph.names, 2)]:
                        self.assertEqual(reference.depth_first(graph, list(roots))[1], [])

    def test_all_small_graphs_of_one_class(self):
        slots = [("x", when, form, ("", "a")) for when in ("first", "later") for form in ("one", "set")]
        rest = [("y", "later", form, ("a",)) for form in ("row", "set")]
        answers = {"calm": 0, "bad": 0, "early": 0}
        for one, other, read in itertools.product(slots, rest, ("own", (), ("x",), ("y",), ("x", "y"))):
            for pair in ((one, other), (other, one)):
                schema = Schema([("a", pair, read)])
                self.check_graphs(schema, reference.small_graphs(schema, "pq", 1))
                answers[calm(schema)[0]] += 1
        self.assertGreater(min(answers.values()), 3)

    def test_all_small_graphs_of_two_classes(self):
        reads = (("num",), ("way",), ("num", "way"))
        ways = itertools.product(("first", "later"), ("one", "row"), (("", "box"), ("", "box", "node")))
        for way, read in itertools.product(ways, reads):
            for slots in itertools.permutations([("num", "later", "one", ("",)), ("way", *way)]):
                schema = Schema([("box", (("has", "later", "set", ("node",)),), "own"), ("node", slots, read)])
                self.check_graphs(schema, reference.small_graphs(schema, "bp", 1))
                self.check_graphs(schema, reference.small_graphs(schema, "bpq", 1))

    def test_graphs_at_random(self):
        rng = random.Random(52)
        answers = {"calm": 0, "bad": 0, "early": 0}
        for _ in range(300):
            schema = reference.some_schema(rng, likely=0.4)
            self.check_graphs(schema, reference.some_graphs(rng, schema, (2, 3, 3, 4, 4)))
            answers[calm(schema)[0]] += 1
        self.assertGreater(min(answers.values()), 10)


class SettledTest(DepthTest):
    def test_places_of_slots(self):
        def slot(name, when):
            return (name, when, "row", ("", "b"))

        letters = {"f": "first", "g": "first"}
        for read, before, after in (
                (("x",), "wfxy", "xfwy"), (("x", "y"), "wxfy", "xyfw"), (("x", "y"), "fwyx", "fyxw"),
                (("f", "y"), "wxyf", "ywxf"), (("f", "g"), "xfyg", "xfyg"), ((), "zyxw", "zyxw"),
                ("own", "zyxw", "zyxw"),
                (("w", "x", "y", "z"), "zxwy", "zxwy"), (("w", "z"), "zyxw", "zwyx"), (("x",), "gxf", "gxf"),
                (("x",), "fgx", "fgx"), (("y",), "xgfy", "ygfx")):
            rows = [[slot(name, letters.get(name, "later")) for name in names] for names in (before, after)]
            other = ("b", (("u", "later", "one", ("b",)), ("v", "later", "one", ("",))), ("v",))
            found = settled(Schema([("a", tuple(rows[0]), read), other]))
            self.assertEqual(found, Schema([("a", tuple(rows[1]), read), (*other[:1], other[1][::-1], other[2])]))
            self.assertEqual(settled(schema=found), found)

    def test_settled_schemas_are_new(self):
        before = ODD.classes
        settled(ODD)
        self.assertEqual(ODD.classes, before)
        self.assertEqual(settled(PAIRS), PAIRS)
        self.assertIs(type(settled(PAIRS)), Schema)

    def test_calm_if_any_order_is(self):
        rng = random.Random(53)
        answers = {True: 0, False: 0}
        for _ in range(400):
            schema = reference.some_schema(rng, likely=0.4)
            found = {calm(other)[0] for other in all_orders(schema)}
            if found != {"bad"}:
                self.assertNotIn("bad", found)
                self.assertEqual(calm(settled(schema))[0] == "calm", "calm" in found)
                answers["calm" in found] += len(found) > 1 or "calm" not in found
        self.assertGreater(min(answers.values()), 3)


if __name__ == "__main__":
    unittest.main()
