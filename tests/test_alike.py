"""Graphs with roots that are the same: point [62]."""

import collections
import copy
import itertools
import random
import unittest

from halfbuilt.alike import is_same, same
from halfbuilt.errors import BadRoots
from halfbuilt.graphs import Graph, reached
from halfbuilt.schemas import Schema
from tests import reference
from tests.samples import ODD_VALUES, PAIRS, ROWS

ALL = ("", "a", "b")


def forms_schema(*reads):
    """A schema with slots of all forms, with some hashes."""
    return Schema([
        ("a", (("one", "later", "one", ALL), ("row", "first", "row", ALL), ("set", "later", "set", ALL)), reads[0]),
        ("b", (("of", "later", "set", ALL),), reads[1]),
    ])


FORMS = forms_schema("own", "own")
SETS = Schema([("s", (("x", "later", "set", ("", "s")), ("y", "later", "set", ("", "s"))), "own")])


def renamed(graph, images):
    """The graph with other names, in the same schema."""
    objects = {}
    for name in graph.names:
        class_name, contents = graph.objects[name]
        held = []
        for slot, content in zip(graph.schema.slots(class_name), contents):
            if slot[2] == "one":
                held.append(images.get(content, content))
            else:
                words = [images.get(word, word) for word in content]
                if slot[2] == "set":
                    words = sorted(words, key=lambda word: (isinstance(word, str), word))
                held.append(tuple(words))
        objects[images[name]] = (class_name, tuple(held))
    return Graph(graph.schema, objects)


def is_key(value):
    try:
        return isinstance(hash(value), int)
    except TypeError:
        return False


class AlikeTest(unittest.TestCase):
    def check(self, one, roots, other, others, images):
        """One map shows that both are the same, or none (None)."""
        before = copy.deepcopy((roots, others)), one.objects, other.objects
        found = same(one, roots, other, others)
        self.assertEqual(found, images)
        self.assertEqual(found, same(other=other, others=tuple(others), one=one, roots=tuple(roots)))
        if found is not None:
            self.check_map(one, roots, other, others, found)
            turned = same(other, others, one, roots)
            self.check_map(other, others, one, roots, turned)
        else:
            self.assertIsNone(same(other, others, one, roots))
        self.assertEqual((copy.deepcopy((roots, others)), one.objects, other.objects), before)

    def check_map(self, one, roots, other, others, images):
        self.assertIs(type(images), dict)
        self.assertEqual(list(images), reached(one, roots))
        self.assertEqual(sorted(images.values()), reached(other, others))
        self.assertIs(is_same(one, roots, other, others, images), True)
        self.assertIs(is_same(thing=images, one=one, others=others, other=other, roots=roots), True)
        self.assertIs(is_same(one, roots, other, others, dict(reversed(images.items()))), True)


class SameTest(AlikeTest):
    def test_example(self):
        graph = Graph(PAIRS, {"b": ("box", (("p",),)), "p": ("pair", ("b", 7))})
        other = Graph(PAIRS, {"x": ("box", (("y",),)), "y": ("pair", ("x", 7))})
        self.check(graph, ["b"], other, ["x"], {"b": "x", "p": "y"})
        self.check(graph, ["b"], other, ["y"], None)
        self.check(graph, ["p", "b"], other, ["y", "x"], {"b": "x", "p": "y"})
        self.check(graph, ["p", "b"], other, ["x", "y"], None)

    def test_no_roots(self):
        graph = Graph(PAIRS, {"b": ("box", (("p",),)), "p": ("pair", ("b", 7))})
        self.check(graph, [], graph, [], {})
        self.check(graph, [], Graph(PAIRS, {}), [], {})
        self.check(graph, [], graph, ["b"], None)
        self.check(graph, [], Graph(ROWS, {}), [], {})
        self.assertIs(is_same(graph, [], graph, [], {}), True)
        self.assertIs(is_same(graph, [], graph, [], {"b": "b"}), False)
        self.assertIs(is_same(graph, [], graph, ["b"], {}), False)

    def test_roots(self):
        graph = Graph(FORMS, {name: ("b", ((),)) for name in "pqr"})
        other = Graph(FORMS, {name: ("b", ((),)) for name in "xyz"})
        self.check(graph, ["q"], other, ["z"], {"q": "z"})
        self.check(graph, ["q", "p"], other, ["z", "y"], {"p": "y", "q": "z"})
        self.check(graph, ["q", "q"], other, ["z", "y"], None)
        self.check(graph, ["q", "p"], other, ["z", "z"], None)
        self.check(graph, ["q", "q"], other, ["z"], None)
        self.check(graph, ["q", "p", "q"], other, ["x", "z", "x"], {"p": "z", "q": "x"})
        self.check(graph, ["q", "p", "q"], other, ["x", "z", "z"], None)

    def test_what_roots_do_not_lead_to(self):
        graph = Graph(FORMS, {"p": ("b", ((1,),)), "q": ("b", (("p",),))})
        other = Graph(FORMS, {"x": ("b", ((1,),)), "y": ("b", (("x", "z"),)), "z": ("b", ((),))})
        self.check(graph, ["p"], other, ["x"], {"p": "x"})
        self.check(graph, ["q"], other, ["y"], None)

    def test_one_word_is_different(self):
        def graph(one=1, row=(2, "q", "q"), of=(3, "p"), numbers=(5,)):
            return Graph(FORMS, {"p": ("a", (one, row, numbers)), "q": ("b", (of,)), "r": ("b", ((),))})

        images = {"p": "p", "q": "q"}
        self.check(graph(), ["p"], graph(), ["p"], images)
        for other in (graph(one=2), graph(one="q"), graph(one="p"), graph(row=(2, "q", "r")), graph(row=(2, "q")),
                      graph(row=(3, "q", "q")), graph(row=("q", 2, "q")), graph(row=(2, "q", "q", "q")),
                      graph(of=(3, "q")), graph(of=(3,)), graph(of=(4, "p")), graph(of=(3, 4, "p")),
                      graph(of=(3, "p", "q")), graph(numbers=()), graph(numbers=(5, 6)), graph(numbers=("q",))):
            self.check(graph(), ["p"], other, ["p"], None)
            self.assertIs(is_same(graph(), ["p"], other, ["p"], images), False)

    def test_another_class(self):
        schema = Schema([("a", (("x", "later", "one", ("",)),), "own"), ("b", (("x", "later", "one", ("",)),), "own")])
        self.check(Graph(schema, {"p": ("a", (1,))}), ["p"], Graph(schema, {"p": ("b", (1,))}), ["p"], None)
        self.assertIs(is_same(Graph(schema, {"p": ("a", (1,))}), ["p"], Graph(schema, {"p": ("b", (1,))}), ["p"],
                              {"p": "p"}), False)

    def test_rows_have_an_order_and_sets_have_none(self):
        objects = {"p": ("b", ((),)), "q": ("b", ((1,),))}
        rows = [Graph(FORMS, {**objects, "t": ("a", (0, row, ()))}) for row in (("p", "q"), ("q", "p"))]
        self.check(rows[0], ["t"], rows[1], ["t"], None)
        self.assertIs(is_same(rows[0], ["t"], rows[1], ["t"], {"p": "p", "q": "q", "t": "t"}), False)
        self.assertIs(is_same(rows[0], ["t"], rows[1], ["t"], {"p": "q", "q": "p", "t": "t"}), False)
        sets = [Graph(FORMS, {"p": ("b", (held,)), "q": ("b", (other,)), "t": ("b", (("p", "q"),))})
                for held, other in (((), (1,)), ((1,), ()))]
        self.check(sets[0], ["t"], sets[1], ["t"], {"p": "q", "q": "p", "t": "t"})

    def test_two_schemas(self):
        objects = {"p": ("a", ("q", (1, "q"), ("p", "q"))), "q": ("b", (("q",),))}
        graphs = [Graph(forms_schema(*reads), objects)
                  for reads in (("own", "own"), (("one",), ("of",)), (("one", "row"), ()), ((), "own"))]
        for one, other in itertools.product(graphs, repeat=2):
            self.check(one, ["p"], other, ["p"], {"p": "p", "q": "q"})

    def test_two_schemas_with_other_slots(self):
        def schema(name="one", when="later", form="row", targets=("", "a"), more=()):
            return Schema([("a", (("x", "first", "one", ("",)), (name, when, form, targets), *more), "own"),
                           ("b", (), "own")])

        contents = {"p": ("a", (1, ("p",)))}
        graph = Graph(schema(), contents)
        self.check(graph, ["p"], Graph(schema(), contents), ["p"], {"p": "p"})
        for changed in (schema(name="two"), schema(when="first"), schema(form="set"), schema(targets=("a",)),
                        schema(targets=("", "a", "b"))):
            self.check(graph, ["p"], Graph(changed, contents), ["p"], None)
            self.assertIs(is_same(graph, ["p"], Graph(changed, contents), ["p"], {"p": "p"}), False)
        more = schema(more=(("y", "later", "row", ("",)),))
        self.check(graph, ["p"], Graph(more, {"p": ("a", (1, ("p",), ()))}), ["p"], None)
        # Classes that no object has do not matter.
        alone = Schema([("a", schema().classes[0][1], "own"), ("c", (("y", "later", "row", ("",)),), "own")])
        self.check(graph, ["p"], Graph(alone, contents), ["p"], {"p": "p"})
        # Classes of the same slots with other names are not kept.
        named = Schema([("c", (("x", "later", "one", ("",)),), "own")])
        other = Schema([("d", (("x", "later", "one", ("",)),), "own")])
        self.check(Graph(named, {"p": ("c", (1,))}), ["p"], Graph(other, {"p": ("d", (1,))}), ["p"], None)

    def test_slots_in_another_order(self):
        slots = (("x", "later", "one", ("",)), ("y", "later", "one", ("",)))
        one, other = Schema([("a", slots, "own")]), Schema([("a", slots[::-1], "own")])
        self.check(Graph(one, {"p": ("a", (1, 2))}), ["p"], Graph(other, {"p": ("a", (2, 1))}), ["p"], None)
        self.assertIs(is_same(Graph(one, {"p": ("a", (1, 1))}), ["p"], Graph(other, {"p": ("a", (1, 1))}), ["p"],
                              {"p": "p"}), False)

    def test_several_maps(self):
        graph = Graph(SETS, {"r": ("s", (("p", "q"), ())), "p": ("s", ((), ())), "q": ("s", ((), ()))})
        images = same(graph, ["r"], graph, ["r"])
        self.assertIn(images, ({"p": "p", "q": "q", "r": "r"}, {"p": "q", "q": "p", "r": "r"}))
        for found in ({"p": "p", "q": "q", "r": "r"}, {"p": "q", "q": "p", "r": "r"}):
            self.check_map(graph, ["r"], graph, ["r"], found)
        for _ in range(3):
            self.assertEqual(same(graph, ["r"], graph, ["r"]), images)

    def test_what_words_alone_do_not_tell_apart(self):
        # A ring of six and two rings of three, all of them in the sets of a root's two sets.
        def rings(nexts):
            objects = {name: ("s", ((other,), ())) for name, other in zip("abcdef", nexts)}
            return Graph(SETS, {**objects, "r": ("s", (("m", "n"), ())), "m": ("s", (("a", "b", "c"), (1,))),
                                "n": ("s", (("d", "e", "f"), (1,)))})

        turned, two, other_two = rings("bcdefa"), rings("bcaefd"), rings("cabefd")
        self.assertIsNone(same(turned, ["r"], two, ["r"]))
        self.assertEqual(reference.are_same(turned, ["r"], two, ["r"]), [])
        self.check_map(two, ["r"], other_two, ["r"], same(two, ["r"], other_two, ["r"]))
        self.check(rings("defabc"), ["r"], two, ["r"], None)

    def test_objects_that_look_alike_but_are_not(self):
        # A ring of three and one of six, of which each object is in one of three sets.
        nexts = dict(zip("abcdefghi", "bcaefghid"))
        objects = {name: ("s", ((nexts[name],), ())) for name in nexts}
        for name, held in (("m", "adg"), ("n", "beh"), ("o", "cfi")):
            objects[name] = ("s", (tuple(held), (1,)))
        graph = Graph(SETS, {**objects, "r": ("s", (("m", "n", "o"), ()))})
        rng = random.Random(65)
        for _ in range(20):
            other = renamed(graph, dict(zip(graph.names, rng.sample("abcdefghijklmnopqrstuvwxyz", 13))))
            root = [name for name in other.names if len(other.words(name, "x")) == 3 and not other.words(name, "y")]
            images = same(graph, ["r"], other, root)
            self.check_map(graph, ["r"], other, root, images)
            self.check_map(other, root, graph, ["r"], same(other, root, graph, ["r"]))

    def test_two_layers(self):
        # Each of eleven objects has two of eleven others in its set: rings that only their sizes tell apart.
        names = ["o" + letter for letter in "abcdefghijklmnopqrstuvw"]
        graphs = []
        for sizes in ((11,), (4, 7), (3, 3, 5), (7, 4)):
            objects, start = {"oa": ("r", (tuple(names[1:5]), tuple(names[5:9]), tuple(names[9:12])))}, 1
            for size in sizes:
                for k in range(size):
                    held = sorted(names[11 + start + (k + step) % size] for step in (0, 1))
                    objects[names[start + k]] = ("s", (tuple(held), ()))
                start += size
            objects.update({name: ("s", ((), ())) for name in names[12:]})
            rows = tuple((slot, "later", "set", ("", "s")) for slot in "xyz")
            graphs.append(Graph(Schema([("r", rows, "own"), *SETS.classes]), objects))
        rng = random.Random(66)
        for one, other in itertools.product(graphs, repeat=2):
            images = dict(zip(other.names, rng.sample(other.names, len(other.names))))
            root, found = [images["oa"]], renamed(other, images)
            if one == other:
                self.check_map(one, ["oa"], found, root, same(one, ["oa"], found, root))
            else:
                self.assertIsNone(same(one, ["oa"], found, root))

    def test_the_largest_graphs(self):
        rng = random.Random(62)
        names = ["o" + letter for letter in "abcdefghijklmnopqrstuvwx"]
        for steps in ((1, 5, 8, 12), (2, 3), (1, 23), (8,)):
            objects = {}
            for k, name in enumerate(names):
                held = tuple(sorted(names[(k + step) % 24] for step in steps))
                objects[name] = ("s", (held, (names[(k + 1) % 24],)))
            graph = Graph(SETS, objects)
            other = renamed(graph, dict(zip(names, rng.sample(names, 24))))
            for root in names[:3]:
                self.check_map(graph, names[:1], other, [root], same(graph, names[:1], other, [root]))
            changed = {**other.objects, "oc": ("s", ((), other.objects["oc"][1][1]))}
            self.assertIsNone(same(graph, names[:1], Graph(SETS, changed), ["oa"]))

    def test_trees_of_sets(self):
        # Five sets of four in a set: nothing but the last number tells the trees apart.
        def tree(numbers):
            names = [first + second for first in "abcde" for second in "wxyz"]
            objects = {name: ("s", ((), (worth,) if worth else ())) for name, worth in zip(names, numbers)}
            for first in "abcd":
                objects[first] = ("s", (tuple(first + second for second in "wxyz"), ()))
            objects["r"] = ("s", (("a", "b", "c", "d"), ()))
            return Graph(SETS, {name: row for name, row in objects.items() if name[0] != "e"})

        one, other = tree([0] * 15 + [1]), tree([1] + [0] * 15)
        self.check_map(one, ["r"], other, ["r"], same(one, ["r"], other, ["r"]))
        self.assertIsNone(same(tree([0] * 14 + [1, 1]), ["r"], tree([1] + [0] * 14 + [1]), ["r"]))

    def test_all_small_graphs(self):
        schema = Schema([("a", (("x", "later", "set", ("", "a")), ("y", "first", "row", ("a",))), "own")])
        graphs = list(reference.small_graphs(schema, "pq", 1))
        for one, other in itertools.product(graphs, repeat=2):
            found = reference.are_same(one, ["p"], other, ["q"])
            images = same(one, ["p"], other, ["q"])
            self.assertEqual(images, found[0] if found else None)

    def test_pairs_of_small_graphs(self):
        rng = random.Random(64)
        schema = Schema([("s", (("x", "later", "set", ("", "s")),), "own")])
        graphs = [graph for graph in reference.small_graphs(schema, "pqr", 2)
                  if graph.objects["p"][1] == (("q", "r"),)]
        counts = collections.Counter()
        for one, other in itertools.product(graphs, rng.sample(graphs, 60)):
            found = reference.are_same(one, ["p"], other, ["p"])
            answer = same(one, ["p"], other, ["p"])
            self.assertIn(answer, found or [None])
            counts[len(found)] += 1
        self.assertEqual(sorted(counts), [0, 1, 2])
        self.assertGreater(min(counts.values()), 2, counts)

    def test_graphs_at_random(self):
        rng = random.Random(63)
        counts = collections.Counter()
        for _ in range(200):
            schema = SETS if rng.random() < 0.3 else reference.some_schema(rng)
            for one in reference.some_graphs(rng, schema, (3, 4, 5)):
                images = dict(zip(one.names, rng.sample("mnopqrst", len(one.names))))
                other = renamed(one, images)
                if rng.random() < 0.5:
                    other = reference.some_graph(rng, schema, "mnopq"[:len(one.names)]) or other
                roots = [rng.choice(one.names) for _ in range(rng.randint(0, 2))]
                others = [images[root] if images[root] in other.names else "m" for root in roots]
                if not all(root in other.names for root in others):
                    continue
                found = reference.are_same(one, roots, other, others)
                answer = same(one, roots, other, others)
                self.assertEqual(answer is None, not found)
                counts[answer is not None, len(found) > 1] += 1
                if found:
                    self.assertIn(answer, found)
                    self.check_map(one, roots, other, others, answer)
                left, right = reached(one, roots), reached(other, others)
                if len(left) == len(right):
                    for chosen in itertools.permutations(right):
                        thing = dict(zip(left, chosen))
                        self.assertIs(is_same(one, roots, other, others, thing), thing in found)
        self.assertGreater(counts[True, False], 50)
        self.assertGreater(counts[False, False], 50)

    def test_returned_dicts_are_new(self):
        graph = Graph(PAIRS, {"b": ("box", (("p",),)), "p": ("pair", ("b", 7))})
        same(graph, ["b"], graph, ["b"]).clear()
        self.check(graph, ["b"], graph, ["b"], {"b": "b", "p": "p"})


class IsSameTest(AlikeTest):
    ONE = Graph(FORMS, {"p": ("a", ("q", (1, "r"), ())), "q": ("b", (("r",),)), "r": ("b", ((),)), "s": ("b", ((),))})
    OTHER = Graph(FORMS, {"u": ("b", ((),)), "x": ("a", ("y", (1, "z"), ())), "y": ("b", (("z",),)), "z": ("b", ((),))})
    IMAGES = {"p": "x", "q": "y", "r": "z"}

    def no_map(self, thing):
        before = copy.deepcopy(thing)
        self.assertIs(is_same(self.ONE, ["p"], self.OTHER, ["x"], thing), False, thing)
        self.assertEqual(thing, before)

    def test_right_map(self):
        self.check_map(self.ONE, ["p"], self.OTHER, ["x"], self.IMAGES)

    def test_pairs_left_out_and_put_in(self):
        for name in self.IMAGES:
            self.no_map({other: self.IMAGES[other] for other in self.IMAGES if other != name})
            self.no_map({other if other != name else "s": self.IMAGES[other] for other in self.IMAGES})
        self.no_map({**self.IMAGES, "s": "u"})
        self.no_map({**self.IMAGES, "t": "z"})
        self.no_map({**self.IMAGES, None: None})

    def test_pairs_exchanged(self):
        for images in itertools.product("uxyz", repeat=3):
            if list(images) != list(self.IMAGES.values()):
                self.no_map(dict(zip("pqr", images)))

    def test_any_value(self):
        for value in [*ODD_VALUES, list(self.IMAGES.items()), tuple(self.IMAGES.items()), "pqr", self.ONE, Graph]:
            self.no_map(value)
            for name in self.IMAGES:
                self.no_map({**self.IMAGES, name: value})
                if is_key(value):
                    self.no_map({value if other == name else other: self.IMAGES[other] for other in self.IMAGES})

    def test_lists_as_images(self):
        self.no_map({name: [self.IMAGES[name]] for name in self.IMAGES})
        self.no_map({name: (self.IMAGES[name],) for name in self.IMAGES})

    def test_roots(self):
        images = {"r": "z"}
        self.assertIs(is_same(self.ONE, ["r"], self.OTHER, ["z"], images), True)
        self.assertIs(is_same(self.ONE, ("r",), self.OTHER, ("z",), images), True)
        self.assertIs(is_same(self.ONE, ["r", "r"], self.OTHER, ["z", "z"], images), True)
        self.assertIs(is_same(self.ONE, ["r", "r"], self.OTHER, ["z"], images), False)
        self.assertIs(is_same(self.ONE, ["r"], self.OTHER, ["z", "z"], images), False)
        self.assertIs(is_same(self.ONE, ["r", "s"], self.OTHER, ["z", "u"], {"r": "z", "s": "u"}), True)
        self.assertIs(is_same(self.ONE, ["r", "s"], self.OTHER, ["z", "u"], {"r": "u", "s": "z"}), False)
        self.assertIs(is_same(self.ONE, ["r", "s"], self.OTHER, ["u", "z"], {"r": "z", "s": "u"}), False)

    def test_two_objects_with_one_image(self):
        one = Graph(SETS, {"p": ("s", (("q", "r"), ())), "q": ("s", ((), ())), "r": ("s", ((), ()))})
        self.assertIs(is_same(one, ["p"], one, ["p"], {"p": "p", "q": "q", "r": "q"}), False)
        two = Graph(SETS, {"p": ("s", (("q",), ())), "q": ("s", ((), ()))})
        self.assertIs(is_same(one, ["p"], two, ["p"], {"p": "p", "q": "q", "r": "q"}), False)


class BadRootsTest(AlikeTest):
    ONE = Graph(FORMS, {"p": ("b", ((),)), "q": ("b", ((),))})
    OTHER = Graph(FORMS, {"x": ("b", ((),)), "y": ("b", ((),))})

    def refused(self, roots, others, index):
        before = copy.deepcopy((roots, others))
        for thing in ("none", None, {"p": "x"}, [], {}):
            with self.assertRaises(BadRoots) as caught:
                if thing == "none":
                    same(self.ONE, roots, self.OTHER, others)
                else:
                    is_same(self.ONE, roots, self.OTHER, others, thing)
            self.assertEqual(caught.exception.index, index)
            self.assertIs(type(caught.exception.index), int)
        self.assertEqual((roots, others), before)

    def test_no_lists(self):
        for value in [*ODD_VALUES, "p", "x", {"p": 1}, {}]:
            if value not in ([], ()):
                self.refused(value, ["x"], 0)
                self.refused(["p"], value, 0)

    def test_items(self):
        for value in [*ODD_VALUES, "z", "b", ["p"], ("x",)]:
            self.refused(["p", value], ["x"], 1)
            self.refused(["p"], ("x", "y", value, value), 2)

    def test_roots_come_first(self):
        self.refused(["p", "q", "x"], ["p"], 2)
        self.refused(["p", "q", "p"], ["x", "p"], 1)
        self.refused(["x"], ["x", "y", "p"], 0)
        self.refused(["p", "x"], None, 1)


if __name__ == "__main__":
    unittest.main()
