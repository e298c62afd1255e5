"""Events, claims, what they need, plans and cycles: points [30] and [31]."""

import copy
import itertools
import random
import unittest

from halfbuilt.errors import NoName, NotSound
from halfbuilt.graphs import Graph
from halfbuilt.plans import events, is_cycle, is_plan, needed, plan
from halfbuilt.schemas import Schema
from tests import reference
from tests.samples import CELLS, ODD_VALUES, PAIRS, ROWS

PAIR_GRAPH = Graph(PAIRS, {"b": ("box", (("p",),)), "p": ("pair", ("b", 7))})
ROW_RING = Graph(ROWS, {"x": ("t", (("y",),)), "y": ("t", (("z",),)), "z": ("t", (("x",),))})

# A slot of each form, given first and put in later, and one of each that is read.
ALL = ("", "a", "b")
FORMS = Schema([
    ("a", (("fo", "first", "one", ALL), ("fr", "first", "row", ALL), ("fs", "first", "set", ALL),
           ("ls", "later", "set", ALL)), ("fo",)),
    ("b", (("lo", "later", "one", ALL), ("lr", "later", "row", ALL), ("ls", "later", "set", ALL)),
     ("lo", "lr", "ls")),
])
BARE = {"lo": 0, "lr": (), "ls": ()}


def b_object(**slots):
    contents = {**BARE, **slots}
    return ("b", (contents["lo"], contents["lr"], contents["ls"]))


# A box whose hash reads nothing, with a member that leads back to the box and has a row that its hash reads.
NOT_SOUND = [
    Graph(Schema([("a", (("x", "later", "set", ("a",)),), ("x",))]), {"p": ("a", (("p",),))}),
    Graph(FORMS, {"p": b_object(ls=("q",)), "q": b_object(lr=("p",))}),
    Graph(FORMS, {"p": b_object(ls=("q",)), "q": b_object(lr=("r",)), "r": b_object(lo="r")}),
    Graph(FORMS, {"p": ("a", (0, (), ("q",), ())), "q": b_object(lo="q")}),
]


class PlansTest(unittest.TestCase):
    def no_name(self, graph, thing):
        before = copy.deepcopy(thing)
        with self.assertRaises(NoName) as caught:
            needed(graph, thing)
        self.assertEqual(caught.exception.name, thing)
        self.assertEqual(thing, before)


class EventsTest(PlansTest):
    def test_makes_and_puts(self):
        graph = Graph(FORMS, {
            "p": ("a", ("q", ("q", 5, "q"), (1, "q"), (0, "p", "r"))), "q": b_object(lr=(3, "p", "p", 3)),
            "r": b_object(lo="p", ls=(2, 4)), "s": b_object()})
        self.assertEqual(events(graph), [
            ("make", "p"), ("make", "q"), ("make", "r"), ("make", "s"),
            ("put", "p", "ls", 0), ("put", "p", "ls", 1), ("put", "p", "ls", 2),
            ("put", "q", "lo", 0), ("put", "q", "lr", 0), ("put", "q", "lr", 1), ("put", "q", "lr", 2),
            ("put", "q", "lr", 3), ("put", "r", "lo", 0), ("put", "r", "ls", 0), ("put", "r", "ls", 1),
            ("put", "s", "lo", 0)])
        self.assertEqual(events(graph=graph), events(graph))

    def test_ascending_whatever_the_order_of_slots(self):
        schema = Schema([("a", (("z", "later", "one", ("",)), ("b", "later", "one", ("",))), "own")])
        graph = Graph(schema, {"q": ("a", (0, 0)), "p": ("a", (0, 0))})
        self.assertEqual(events(graph), [("make", "p"), ("make", "q"), ("put", "p", "b", 0), ("put", "p", "z", 0),
                                         ("put", "q", "b", 0), ("put", "q", "z", 0)])

    def test_first_slots_have_no_puts(self):
        self.assertEqual(events(ROW_RING), [("make", "x"), ("make", "y"), ("make", "z")])

    def test_no_objects(self):
        self.assertEqual(events(Graph(FORMS, {})), [])

    def test_graphs_that_are_not_sound(self):
        self.assertEqual(events(NOT_SOUND[0]), [("make", "p"), ("put", "p", "x", 0)])

    def test_returned_lists_are_new(self):
        events(PAIR_GRAPH).clear()
        needed(PAIR_GRAPH, ("make", "p")).clear()
        self.assertEqual(len(events(PAIR_GRAPH)), 4)
        self.assertEqual(needed(PAIR_GRAPH, ("make", "p")), [("make", "b")])
        self.assertIs(type(events(PAIR_GRAPH)), list)


class NeededTest(PlansTest):
    graph = Graph(FORMS, {
        "p": ("a", ("q", ("s", 5, "r", "s"), (1, "r", "u"), (0, "s", "t"))),
        "q": b_object(lo="r", lr=(3, "s", "q", "s"), ls=(2, "t", "u")),
        "r": b_object(lo="s", lr=("t", 4, "t"), ls=(7, "u")), "s": b_object(lr=(1, 2)), "t": b_object(),
        "u": b_object(), "w": ("a", (1, (2, 3), (4, 5), (6,)))})

    def needs(self, thing, *found):
        self.assertEqual(needed(self.graph, thing), list(found))
        self.assertEqual(needed(thing=thing, graph=self.graph), list(found))

    def test_make(self):
        # By the forms "one" and "row" no claims are needed: ("ready", "u") and ("ready", "r") are for the set.
        self.needs(("make", "p"), ("make", "q"), ("make", "r"), ("make", "s"), ("make", "u"),
                   ("ready", "r"), ("ready", "u"))

    def test_make_without_first_slots_or_objects(self):
        self.needs(("make", "q"))
        self.needs(("make", "w"))

    def test_put_of_one(self):
        self.needs(("put", "q", "lo", 0), ("make", "q"), ("make", "r"))
        self.needs(("put", "t", "lo", 0), ("make", "t"))

    def test_put_of_row(self):
        self.needs(("put", "q", "lr", 0), ("make", "q"))
        self.needs(("put", "q", "lr", 1), ("make", "q"), ("make", "s"), ("put", "q", "lr", 0))
        self.needs(("put", "q", "lr", 2), ("make", "q"), ("put", "q", "lr", 1))
        self.needs(("put", "q", "lr", 3), ("make", "q"), ("make", "s"), ("put", "q", "lr", 2))
        self.needs(("put", "s", "lr", 1), ("make", "s"), ("put", "s", "lr", 0))

    def test_put_of_set(self):
        self.needs(("put", "q", "ls", 0), ("make", "q"))
        self.needs(("put", "q", "ls", 1), ("make", "q"), ("make", "t"), ("ready", "t"))
        self.needs(("put", "p", "ls", 2), ("make", "p"), ("make", "t"), ("ready", "t"))
        self.needs(("put", "w", "ls", 0), ("make", "w"))

    def test_claims(self):
        self.needs(("ready", "r"), ("make", "r"), ("put", "r", "lo", 0), ("put", "r", "lr", 0), ("put", "r", "lr", 1),
                   ("put", "r", "lr", 2), ("put", "r", "ls", 0), ("put", "r", "ls", 1),
                   ("ready", "s"), ("ready", "t"), ("ready", "u"))
        self.needs(("ready", "t"), ("make", "t"), ("put", "t", "lo", 0))

    def test_claims_of_hashes_that_read_some_slots(self):
        slots = (("f", "first", "row", ("a",)), ("g", "first", "set", ("a",)), ("l", "later", "row", ("a",)),
                 ("m", "later", "set", ("a",)))
        contents = {"p": ("a", ((), (), (), ("q",))), "q": ("a", (("r",), ("s",), ("t", "t"), ("u",))),
                    "r": ("a", ((), (), (), ())), "s": ("a", ((), (), (), ())), "t": ("a", ((), (), (), ())),
                    "u": ("a", ((), (), (), ()))}
        puts = [("put", "q", "l", 0), ("put", "q", "l", 1)]
        for read, found in (("own", []), ((), []), (("f",), [("ready", "r")]), (("g",), [("ready", "s")]),
                            (("l",), [*puts, ("ready", "t")]), (("m",), [("put", "q", "m", 0), ("ready", "u")]),
                            (("f", "l"), [*puts, ("ready", "r"), ("ready", "t")])):
            graph = Graph(Schema([("a", slots, read)]), contents)
            self.assertEqual(needed(graph, ("ready", "q")), [("make", "q"), *found])

    def test_claims_of_hashed_objects_only(self):
        for name in "prstu":
            is_hashed = name in reference.all_hashed(self.graph)
            self.assertEqual(is_hashed, name != "p")
        for name in "pqw":
            self.no_name(self.graph, ("ready", name))
        # What a member hashes is hashed, and what that hashes.
        graph = Graph(FORMS, {"p": b_object(ls=("q",)), "q": b_object(lo="r"), "r": b_object(lr=("s",)),
                              "s": b_object(), "t": b_object(lo="p")})
        for name in "qrs":
            self.assertEqual(needed(graph, ("ready", name))[0], ("make", name))
        for name in "pt":
            self.no_name(graph, ("ready", name))

    def test_graphs_that_are_not_sound(self):
        self.assertEqual(needed(NOT_SOUND[0], ("ready", "p")), [("make", "p"), ("put", "p", "x", 0), ("ready", "p")])
        self.assertEqual(needed(NOT_SOUND[0], ("put", "p", "x", 0)), [("make", "p"), ("ready", "p")])

    def test_no_event_and_no_claim(self):
        for value in [*ODD_VALUES, "p", "make", ["make", "p"], {"make": "p"}, ("make",), ("p",), ("make", "x"),
                      ("make", "p", 0), ("make", "p", "lo"), ("make", "p", "ls", 0), ("make", ["p"]), ("make", ("p",)),
                      ("make", None), (("make", "p"),), [("make", "p")], ("ready", "p"), ("ready",), ("ready", "x"),
                      ("ready", "r", 0), ("ready", {}), ("save", "p"), ("Make", "p"), (["make"], "p"), (None, "p")]:
            self.no_name(self.graph, value)

    def test_puts_that_are_not_there(self):
        for value in [("put", "p", "fo", 0), ("put", "p", "fr", 0), ("put", "p", "fs", 0), ("put", "p", "ls", 3),
                      ("put", "p", "ls", -1), ("put", "q", "lo", 1), ("put", "q", "lo", -1), ("put", "q", "lr", 4),
                      ("put", "s", "ls", 0), ("put", "q", "x", 0), ("put", "x", "lr", 0), ("put", "p", "lr", 0),
                      ("put", "q", "lr", True), ("put", "q", "lr", False), ("put", "q", "lo", False),
                      ("put", "q", "lr", "0"), ("put", "q", "lr", None), ("put", "q", "lr", [0]), ("put", "q", "lr"),
                      ("put", "q", "lr", 0, 0), ("put", "q", ["lr"], 0), ("put", ["q"], "lr", 0), ("put", "q"),
                      ("put",), ["put", "q", "lr", 0], ("put", "q", "lr", 10 ** 99), ("put", "q", "lr", ()),
                      ("put", "q", 0, 0)]:
            self.no_name(self.graph, value)

    def test_a_refused_value_changes_nothing(self):
        before = {thing: needed(self.graph, thing) for thing in reference.all_needs(self.graph)}
        self.no_name(self.graph, ["make", "p"])
        self.assertEqual({thing: needed(self.graph, thing) for thing in before}, before)

    def test_graphs_at_random(self):
        rng = random.Random(30)
        for _ in range(60):
            for graph in reference.some_graphs(rng, reference.some_schema(rng), (1, 2, 3, 4)):
                needs = reference.all_needs(graph)
                self.assertEqual(events(graph), reference.all_events(graph))
                for thing in needs:
                    self.assertEqual(needed(graph, thing), sorted(needs[thing]))
                for name in set(graph.names) - reference.all_hashed(graph):
                    self.no_name(graph, ("ready", name))


class PlanTest(PlansTest):
    def check_cycle(self, graph, thing):
        needs = reference.all_needs(graph)
        self.assertIs(type(thing), tuple)
        self.assertTrue(thing)
        for at, item in enumerate(thing):
            self.assertIn(thing[(at + 1) % len(thing)], needs[item])

    def check(self, graph):
        """Compares the answer with whether an event or a claim needs itself."""
        answer, thing = plan(graph)
        self.assertEqual(plan(Graph(graph.schema, graph.objects)), (answer, thing))
        if reference.has_plan(graph):
            self.assertEqual(answer, "plan")
            self.assertIs(type(thing), tuple)
            self.assertEqual(sorted(thing), reference.all_events(graph))
            self.assertTrue(reference.is_plan(graph, thing))
            self.assertIs(is_plan(graph, thing), True)
            self.assertIs(is_cycle(graph, thing), False)
        else:
            self.assertEqual(answer, "cycle")
            self.check_cycle(graph, thing)
            self.assertIs(is_cycle(graph, thing), True)
            self.assertIs(is_plan(graph, thing), False)
        return answer

    def test_example(self):
        self.assertEqual(plan(PAIR_GRAPH), ("plan", (("make", "b"), ("make", "p"), ("put", "p", "tag", 0),
                                                     ("put", "b", "items", 0))))
        self.assertEqual(plan(graph=PAIR_GRAPH), plan(PAIR_GRAPH))

    def test_no_objects(self):
        self.assertEqual(plan(Graph(PAIRS, {})), ("plan", ()))

    def test_one_object(self):
        self.assertEqual(plan(Graph(CELLS, {"c": ("cell", (5,))})), ("plan", (("make", "c"), ("put", "c", "value", 0))))
        self.assertEqual(plan(Graph(ROWS, {"x": ("t", (("x",),))})), ("cycle", (("make", "x"),)))

    def test_ring_of_makes(self):
        answer, thing = plan(ROW_RING)
        self.assertEqual(answer, "cycle")
        self.assertEqual(sorted(thing), [("make", "x"), ("make", "y"), ("make", "z")])
        self.check(ROW_RING)

    def test_ring_behind_other_objects(self):
        objects = {"a": ("t", (("b",),)), "b": ("t", (("c", "d"),)), "c": ("t", ((),)), "d": ("t", (("e",),)),
                   "e": ("t", (("d",),))}
        self.assertEqual(sorted(plan(Graph(ROWS, objects))[1]), [("make", "d"), ("make", "e")])

    def test_ring_by_a_claim(self):
        # The box is given its member first, and the hash of the member reads what is put in later: the box.
        schema = Schema([("box", (("has", "first", "set", ("node",)),), "own"),
                         ("node", (("to", "later", "one", ("box",)),), ("to",))])
        graph = Graph(schema, {"b": ("box", (("n",),)), "n": ("node", ("b",))})
        answer, thing = plan(graph)
        self.assertEqual(answer, "cycle")
        for last in (("put", "n", "to", 0), ("ready", "b")):
            self.assertIs(is_cycle(graph, (("make", "b"), ("ready", "n"), last)), True)
        self.check(graph)

    def test_words_that_are_there_twice(self):
        schema = Schema([("a", (("f", "first", "row", ("", "a")), ("l", "later", "row", ("", "a"))), "own")])
        self.assertEqual(self.check(Graph(schema, {
            "p": ("a", (("q", "q", 1, 1), ("p", "q", "p", "q"))), "q": ("a", ((), ("p", "p", 0, 0)))})), "plan")

    def test_the_order_of_the_dict_has_no_meaning(self):
        objects = {"b": ("box", ((0, "p", "q", "r"),)), "p": ("pair", ("c", 7)), "q": ("pair", (0, 7)),
                   "r": ("pair", ("b", 7)), "c": ("box", (("p", "q"),))}
        found = plan(Graph(PAIRS, objects))
        for names in itertools.permutations(objects):
            self.assertEqual(plan(Graph(PAIRS, {name: objects[name] for name in names})), found)

    def test_small_graphs_against_all_orders(self):
        slots = [("x", when, form, ("a",)) for when in ("first", "later") for form in ("one", "row", "set")]
        answers = {"plan": 0, "cycle": 0}
        for one, other in itertools.product(slots, repeat=2):
            schema = Schema([("a", (one, ("y", *other[1:])), ("x",))])
            for graph in reference.small_graphs(schema, "pq", 1):
                if reference.is_sound(graph) and len(reference.all_events(graph)) <= 5:
                    found = reference.plans(graph)
                    answer = self.check(graph)
                    self.assertEqual(answer == "plan", bool(found))
                    answers[answer] += 1
                    for order in itertools.permutations(reference.all_events(graph)):
                        self.assertIs(is_plan(graph, order), order in found)
        self.assertGreater(min(answers.values()), 50)

    def test_graphs_at_random(self):
        rng = random.Random(31)
        answers = {"plan": 0, "cycle": 0}
        for _ in range(150):
            for graph in reference.some_graphs(rng, reference.some_schema(rng), (2, 3, 4, 5)):
                if reference.is_sound(graph):
                    answers[self.check(graph)] += 1
        self.assertGreater(min(answers.values()), 50)

    def test_many_objects(self):
        names = sorted(first + second for first in "ab" for second in "cdefghijklmn")
        slots = (("w", "later", "row", ("a",)), ("x", "later", "set", ("a",)), ("y", "first", "one", ("", "a")),
                 ("z", "first", "set", ("a",)))
        schema = Schema([("a", slots, ("w",))])
        objects = {name: ("a", (tuple(names[at + 1:at + 5]), tuple(names[:4]), names[at + 1] if at < 23 else 0,
                                tuple(names[at + 2:at + 6]))) for at, name in enumerate(names)}
        graph = Graph(schema, objects)
        self.assertEqual(len(graph.names), 24)
        # The ways of claims are too many to be told one by one, as the reference does.
        answer, thing = plan(graph)
        self.assertEqual((answer, sorted(thing)), ("plan", reference.all_events(graph)))
        self.assertIs(is_plan(graph, thing), True)
        objects[names[22]] = ("a", ((), (), names[23], ()))
        objects[names[23]] = ("a", ((), (), names[22], ()))
        answer, thing = plan(Graph(schema, objects))
        self.assertEqual(answer, "cycle")
        self.check_cycle(Graph(schema, objects), thing)


class CheckersTest(PlansTest):
    rows = Graph(FORMS, {"p": b_object(lr=(1, "q", 1), ls=("q",)), "q": b_object(lo="p"), "r": b_object()})
    pair = Graph(PAIRS, {"b": ("box", ((3, "p"),)), "p": ("pair", ("b", 7))})

    def test_values_that_are_neither(self):
        for graph in (PAIR_GRAPH, ROW_RING, Graph(PAIRS, {}), self.pair):
            for value in [*ODD_VALUES, "p", ("make", "b"), [("make", "b")], (("make", "b"), None), ((),),
                          (["make", "b"],), ({},), (("make", ["b"]),), (("make", {}),), (("make", "x", None),),
                          (None,), (0,), (True,)]:
                before = copy.deepcopy(value)
                self.assertIs(is_plan(graph, value), value == () and graph.names == ())
                self.assertIs(is_cycle(graph, value), False)
                self.assertEqual(value, before)

    def test_plans_that_are_changed(self):
        for graph in (PAIR_GRAPH, self.pair, Graph(CELLS, {"c": ("cell", (5,))})):
            right = plan(graph)[1]
            found = reference.plans(graph)
            self.assertIs(is_plan(graph=graph, thing=right), True)
            self.assertIs(is_plan(graph, list(right)), False)
            self.assertIs(is_plan(graph, [*right]), False)
            others = [*right, ("make", "x"), ("put", "b", "items", 9), ("ready", "p"), ("ready", "b"), None]
            for at in range(len(right)):
                self.assertIs(is_plan(graph, right[:at] + right[at + 1:]), False)
                for place in range(len(right) + 1):
                    self.assertIs(is_plan(graph, right[:place] + (right[at],) + right[place:]), False)
                    rest = right[:at] + right[at + 1:]
                    moved = rest[:place] + (right[at],) + rest[place:]
                    self.assertIs(is_plan(graph, moved), moved in found)
                for other in others:
                    changed = right[:at] + (other,) + right[at + 1:]
                    self.assertIs(is_plan(graph, changed), changed == right)
                    self.assertIs(is_plan(graph, right[:at] + (other,) + right[at:]), False)
                self.assertIs(is_plan(graph, right[:at] + (list(right[at]),) + right[at + 1:]), False)

    def test_bools_are_no_numbers_of_words(self):
        right = plan(self.pair)[1]
        for at, item in enumerate(right):
            if item[0] == "put":
                odd = (*item[:3], item[3] == 1)
                self.assertEqual(odd, item)
                self.assertIs(is_plan(self.pair, right[:at] + (odd,) + right[at + 1:]), False)

    def test_what_claims_need_comes_before(self):
        # q is hashed by p, p is in a set: to put p in needs what the claim of q needs.
        graph = Graph(FORMS, {"m": b_object(ls=("p",)), "p": b_object(lo="q"), "q": b_object(lo="r"),
                              "r": b_object(lo=3)})
        start = tuple(("make", name) for name in "mpqr") + (("put", "m", "lo", 0),)
        puts = tuple(("put", name, "lo", 0) for name in "pqr")
        put_in = ("put", "m", "ls", 0)
        for order in itertools.permutations(puts):
            self.assertIs(is_plan(graph, (*start, *order, put_in)), True)
            self.assertIs(is_plan(graph, (*start, *order[:2], put_in, order[2])), False)
            self.assertIs(is_plan(graph, (*start, put_in, *order)), False)

    def test_rows_are_put_in_order(self):
        graph = Graph(FORMS, {"p": b_object(lr=(1, 1, 1))})
        make, one = ("make", "p"), ("put", "p", "lo", 0)
        for order in itertools.permutations(range(3)):
            puts = tuple(("put", "p", "lr", k) for k in order)
            self.assertIs(is_plan(graph, (make, one, *puts)), order == (0, 1, 2))

    def test_graph_without_a_plan(self):
        graph = ROW_RING
        for order in itertools.permutations(events(graph)):
            self.assertIs(is_plan(graph, order), False)
        self.assertIs(is_plan(graph, ()), False)

    def test_cycles_that_are_changed(self):
        right = (("make", "x"), ("make", "y"), ("make", "z"))
        self.assertIs(is_cycle(graph=ROW_RING, thing=right), True)
        for at in range(3):
            self.assertIs(is_cycle(ROW_RING, right[at:] + right[:at]), True)
            self.assertIs(is_cycle(ROW_RING, (right[at:] + right[:at]) * 2), True)
            self.assertIs(is_cycle(ROW_RING, right[:at] + right[at + 1:]), False)
            self.assertIs(is_cycle(ROW_RING, right[:at] + right[at:at + 1] + right[at:]), False)
            for other in (("make", "w"), ("ready", "x"), ("put", "x", "of", 0), None, right[at - 1], list(right[at])):
                self.assertIs(is_cycle(ROW_RING, right[:at] + (other,) + right[at + 1:]), False)
        self.assertIs(is_cycle(ROW_RING, right[::-1]), False)
        self.assertIs(is_cycle(ROW_RING, list(right)), False)
        self.assertIs(is_cycle(ROW_RING, right[:1]), False)
        self.assertIs(is_cycle(ROW_RING, right + right[:1]), False)
        self.assertIs(is_cycle(ROW_RING, ()), False)

    def test_the_last_one_needs_the_first_one(self):
        way = (("ready", "p"), ("put", "p", "tag", 0), ("make", "p"), ("make", "b"))
        self.assertIs(is_cycle(PAIR_GRAPH, way), False)

    def test_cycles_of_puts(self):
        schema = Schema([("box", (("in", "later", "set", ("box",)), ("row", "later", "row", ("", "box", "top"))),
                          ("row",)),
                         ("top", (("in", "first", "set", ("box",)),), "own")])
        graph = Graph(schema, {"b": ("box", (("c",), (1, "t"))), "c": ("box", ((), (2, "b"))), "t": ("top", (("c",),))})
        self.assertTrue(reference.is_sound(graph))
        self.assertFalse(reference.has_plan(graph))
        cycle = (("make", "t"), ("ready", "c"), ("ready", "b"), ("put", "b", "row", 1))
        self.assertIs(is_cycle(graph, cycle), True)
        self.assertIs(is_cycle(graph, cycle[:3] + (("ready", "t"),)), True)
        for odd in (True, 0, "1", None):
            self.assertIs(is_cycle(graph, cycle[:3] + (("put", "b", "row", odd),)), False)

    def test_not_sound(self):
        for graph in NOT_SOUND:
            self.assertFalse(reference.is_sound(graph))
            self.not_sound(graph)

    def not_sound(self, graph):
        before = graph.objects
        with self.assertRaises(NotSound):
            plan(graph)
        for value in ((), None, (("make", "p"),), [], (("ready", "p"),), tuple(events(graph))):
            with self.assertRaises(NotSound):
                is_plan(graph, value)
            with self.assertRaises(NotSound):
                is_cycle(graph, value)
        self.assertEqual(graph.objects, before)

    def test_rings_of_hashes_that_nothing_asks_for(self):
        graph = Graph(FORMS, {"p": b_object(lo="q"), "q": b_object(lo="p"), "r": b_object(ls=("s",)), "s": b_object()})
        self.assertEqual(plan(graph)[0], "plan")
        self.assertIs(is_plan(graph, plan(graph)[1]), True)
        self.assertIs(is_cycle(graph, (("ready", "p"), ("ready", "q"))), False)

    def test_not_sound_exactly(self):
        schema = Schema([("a", (("x", "later", "set", ("a",)), ("y", "first", "row", ("a",))), ("y",)),
                         ("b", (), "own")])
        sound = 0
        for graph in reference.small_graphs(schema, "pq", 2):
            if reference.is_sound(graph):
                sound += 1
                answer, thing = plan(graph)
                self.assertIs(is_plan(graph, thing), answer == "plan")
                self.assertIs(is_cycle(graph, thing), answer == "cycle")
            else:
                self.not_sound(graph)
        self.assertGreater(sound, 100)


if __name__ == "__main__":
    unittest.main()
