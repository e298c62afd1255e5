"""Graphs, and what is hashed and reached in them: points [20] and [21]."""

import copy
import itertools
import unittest

from halfbuilt.errors import BadGraph, BadRoots, NoName
from halfbuilt.graphs import Graph, endless, hashes, is_sound, members, reached
from halfbuilt.schemas import Schema
from tests.samples import CELLS, ODD_VALUES, PAIRS, ROWS

PAIR_OBJECTS = {"b": ("box", (("p",),)), "p": ("pair", ("b", 7))}

# A slot of each form, for numbers and objects of both classes.
BOTH = ("", "a", "b")
FORMS = Schema([
    ("a", (("one", "first", "one", BOTH), ("row", "later", "row", BOTH), ("set", "later", "set", BOTH)), ("row",)),
    ("b", (), "own"),
])
# Slots with targets of one sort each.
SORTS = Schema([
    ("a", (("n", "first", "row", ("",)), ("a", "later", "set", ("a",)), ("b", "later", "one", ("b",))), "own"),
    ("b", (("a", "first", "set", ("", "a")),), "own"),
])
# "in" makes its words members; "node" hashes what is in "to", whereas "by" is not read.
NODES = Schema([
    ("in", (("has", "later", "set", ("node",)),), "own"),
    ("node", (("to", "later", "row", ("", "in", "node")), ("by", "later", "row", ("node",))), ("to",)),
])


def names_of(many):
    return [first + second for first in "abcdef" for second in "pqrstuvwxyz"][:many]


class GraphTest(unittest.TestCase):
    def refused(self, schema, objects, name):
        before = copy.deepcopy(objects)
        with self.assertRaises(BadGraph) as caught:
            Graph(schema, objects)
        self.assertEqual(caught.exception.name, name, objects)
        self.assertIs(type(caught.exception.name), type(name))
        self.assertEqual(objects, before)

    def no_name(self, name, ask, *arguments):
        before = copy.deepcopy(arguments)
        with self.assertRaises(NoName) as caught:
            ask(*arguments)
        self.assertEqual(caught.exception.name, name)
        self.assertEqual(arguments, before)


class MadeGraphsTest(GraphTest):
    def test_example(self):
        graph = Graph(PAIRS, PAIR_OBJECTS)
        self.assertEqual((hashes(graph, "p"), members(graph), is_sound(graph)), (["b"], ["p"], True))

    def test_properties(self):
        graph = Graph(schema=PAIRS, objects=PAIR_OBJECTS)
        self.assertEqual(graph.schema, PAIRS)
        self.assertEqual(graph.objects, PAIR_OBJECTS)
        self.assertEqual(graph.names, ("b", "p"))
        self.assertIs(type(graph.names), tuple)
        for name in ("schema", "objects", "names"):
            with self.assertRaises(AttributeError):
                setattr(graph, name, None)

    def test_empty(self):
        graph = Graph(PAIRS, {})
        self.assertEqual((graph.objects, graph.names, members(graph)), ({}, (), []))
        self.assertIs(is_sound(graph), True)
        self.assertIs(endless(graph), None)
        self.assertEqual(reached(graph, []), [])

    def test_objects_in_any_order(self):
        objects = {"b": ("box", (("c", "p"),)), "c": ("pair", (1, 2)), "p": ("pair", ("b", 7))}
        one = Graph(PAIRS, objects)
        for names in itertools.permutations(objects):
            other = Graph(PAIRS, {name: objects[name] for name in names})
            self.assertEqual(other, one)
            self.assertEqual(other.names, ("b", "c", "p"))
            self.assertEqual(list(other.objects), ["b", "c", "p"])

    def test_later_changes(self):
        objects = dict(PAIR_OBJECTS)
        graph = Graph(PAIRS, objects)
        self.assertEqual(objects, PAIR_OBJECTS)
        objects["p"] = None
        objects["z"] = ("pair", (0, 0))
        self.assertEqual(graph.objects, PAIR_OBJECTS)
        returned = graph.objects
        del returned["b"]
        returned["p"] = 1
        self.assertEqual(graph.objects, PAIR_OBJECTS)
        self.assertEqual(graph.names, ("b", "p"))
        self.assertEqual(graph.words("p", "left"), ("b",))
        self.assertEqual(graph, Graph(PAIRS, PAIR_OBJECTS))

    def test_equality(self):
        wide = Schema([*PAIRS.classes, ("z", (), "own")])
        again = [Graph(PAIRS, PAIR_OBJECTS), Graph(PAIRS, {}), Graph(wide, PAIR_OBJECTS), Graph(wide, {}),
                 Graph(PAIRS, {"p": ("pair", (1, 2))}), Graph(PAIRS, {"p": ("pair", (1, 3))}),
                 Graph(PAIRS, {"q": ("pair", (1, 2))}), Graph(PAIRS, {"p": ("box", ((),))})]
        for one, other in itertools.product(range(len(again)), repeat=2):
            self.assertIs(again[one] == again[other], one == other)
            self.assertIs(again[one] != again[other], one != other)
        self.assertTrue(Graph(PAIRS, PAIR_OBJECTS) == Graph(Schema(list(PAIRS.classes)), dict(PAIR_OBJECTS)))
        self.assertFalse(Graph(PAIRS, PAIR_OBJECTS) != Graph(PAIRS, PAIR_OBJECTS))

    def test_unequal_to_other_values(self):
        graph = Graph(PAIRS, PAIR_OBJECTS)
        for value in [*ODD_VALUES, PAIR_OBJECTS, PAIRS, ("b", "p"), (PAIRS, PAIR_OBJECTS), "p"]:
            self.assertIs(graph == value, False)
            self.assertIs(graph != value, True)
            self.assertIs(value == graph, False)

    def test_number_of_objects(self):
        objects = {name: ("b", ()) for name in names_of(24)}
        self.assertEqual(Graph(FORMS, objects).names, tuple(sorted(objects)))
        objects["zzz"] = ("b", ())
        self.refused(FORMS, objects, None)
        objects["aaa"] = None
        self.refused(FORMS, objects, None)

    def test_contents(self):
        for one in (-999, 0, 999, "x", "y"):
            for row in ((), (0,), (999, -999, 0, 0), ("y", "x", 3, "x"), ("x", "x", "x", "x")):
                for some in ((), (-999,), (-2, -1, 0, 999), ("x", "y"), (1, "x", "y"), (-5, 10, "x", "y")):
                    objects = {"x": ("a", (one, row, some)), "y": ("b", ())}
                    self.assertEqual(Graph(FORMS, objects).objects, objects)

    def test_names_of_objects(self):
        for name in ("a", "abcdef", "own", "box"):
            self.assertEqual(Graph(FORMS, {name: ("b", ())}).names, (name,))


class RefusedGraphsTest(GraphTest):
    def test_no_dict(self):
        for value in [*ODD_VALUES, "b", ["b"], [("b", ("b", ()))], (("b", ("b", ())),), ("b", ("b", ()))]:
            if value not in ({}, {"zz": 1}):
                self.refused(FORMS, value, None)
        # A dict from names is refused for what it holds.
        self.refused(FORMS, {"zz": 1}, "zz")

    def test_wrong_names(self):
        for value in ["abcdefg", "B", "a b", "", "b1", 1, None, True, 10 ** 99, (), ("b",), (("b",),), -1]:
            self.refused(FORMS, {value: ("b", ())}, None)
            self.refused(FORMS, {"b": ("b", ()), value: ("b", ())}, None)
            self.refused(FORMS, {"a": None, value: ("b", ())}, None)

    def test_no_pair(self):
        for value in [*ODD_VALUES, "b", ["b", ()], ("b",), ("b", (), ()), (("b", ()),), {"b": ()}, "ba"]:
            self.refused(FORMS, {"x": value}, "x")
            self.refused(FORMS, {"w": ("b", ()), "x": value, "y": ("b", ())}, "x")

    def test_wrong_class(self):
        for value in [*ODD_VALUES, "c", "A", ["b"], ("b",), "bb"]:
            self.refused(FORMS, {"x": (value, ())}, "x")

    def test_contents_are_no_tuple(self):
        for value in [*ODD_VALUES, [0, (), ()], {0: 1, 1: 2, 2: 3}, "abc", (0, ()), (0, (), (), ())]:
            self.refused(FORMS, {"x": ("a", value)}, "x")
            if value != ():
                self.refused(FORMS, {"x": ("b", value)}, "x")
        self.refused(FORMS, {"x": ("b", [])}, "x")

    def test_words(self):
        for value in ODD_VALUES:
            whole = isinstance(value, int) and not isinstance(value, bool) and abs(value) <= 999
            for at in range(3):
                contents = [0, (), ()]
                contents[at] = (value, (value,), (value,))[at]
                if whole:
                    self.assertEqual(Graph(FORMS, {"x": ("a", tuple(contents))}).names, ("x",))
                else:
                    self.refused(FORMS, {"x": ("a", tuple(contents))}, "x")
        for value in (-1000, 1000, 10 ** 100, -(10 ** 100), True, False):
            self.refused(FORMS, {"x": ("a", (value, (), ()))}, "x")
            self.refused(FORMS, {"x": ("a", (0, (0, value), ()))}, "x")
            self.refused(FORMS, {"x": ("a", (0, (), (-999, value)))}, "x")

    def test_one_is_no_tuple(self):
        for value in ((0,), ("x",), (), [0], ["x"], None):
            self.refused(FORMS, {"x": ("a", (value, (), ()))}, "x")

    def test_rows_and_sets_are_tuples(self):
        for value in [*ODD_VALUES, 0, "x", ["x"], {"x": 1}, [0], {0: 0}]:
            if value != ():
                self.refused(FORMS, {"x": ("a", (0, value, ()))}, "x")
                self.refused(FORMS, {"x": ("a", (0, (), value))}, "x")

    def test_number_of_words(self):
        self.refused(FORMS, {"x": ("a", (0, (0, 0, 0, 0, 0), ()))}, "x")
        self.refused(FORMS, {"x": ("a", (0, (), (0, 1, 2, 3, 4)))}, "x")

    def test_sets_ascend(self):
        for some in ((0, 0), (1, 0), (0, -1), (-1, -2), ("x", "x"), ("y", "x"), ("x", 0), (0, "x", 1), (0, 2, 1),
                     (0, "y", "x"), ("x", "y", "x")):
            self.refused(FORMS, {"x": ("a", (0, (), some)), "y": ("b", ())}, "x")

    def test_words_that_are_not_allowed(self):
        good = {"x": ("a", ((1,), ("x", "y"), "z")), "y": ("a", ((), (), "z")), "z": ("b", ((2, "x", "y"),))}
        self.assertEqual(Graph(SORTS, good).objects, good)
        for contents in (((1, "x"), (), "z"), (("z",), (), "z"), ((1,), (1,), "z"), ((1,), ("z",), "z"),
                         ((1,), ("x", "z"), "z"), ((), (), 0), ((), (), "x"), ((), (), "w"), ((), ("w",), "z"),
                         (("w",), (), "z")):
            self.refused(SORTS, {**good, "x": ("a", contents)}, "x")
        for some in (("z",), (0, "z"), ("w",), ("w", "x"), (2, "x", "yy")):
            self.refused(SORTS, {**good, "z": ("b", (some,))}, "z")

    def test_least_name_of_a_wrong_form(self):
        good = {"w": ("b", ()), "x": ("a", (0, (), ())), "y": ("b", ()), "z": ("b", ())}
        for wrong in itertools.chain(*(itertools.combinations("wxyz", many) for many in range(1, 5))):
            for names in ("wxyz", "zyxw", "yxwz"):
                objects = {name: None if name in wrong else good[name] for name in names}
                self.refused(FORMS, objects, wrong[0])

    def test_forms_before_words(self):
        self.refused(FORMS, {"x": ("a", ("q", (), ())), "y": ("a", ("q", (), ()))}, "x")
        self.refused(FORMS, {"y": ("a", ("q", (), ())), "x": ("a", ("q", (), ()))}, "x")
        self.refused(FORMS, {"x": ("a", ("q", (), ())), "y": ("a", (None, (), ()))}, "y")
        self.refused(FORMS, {"x": ("a", ("q", (), ())), "y": ("a", (1000, (), ())), "z": None}, "y")
        self.refused(FORMS, {"x": ("a", ("q", (), ())), "q": 5}, "q")

    def test_a_refused_graph_changes_nothing(self):
        graph = Graph(PAIRS, PAIR_OBJECTS)
        self.refused(PAIRS, {**PAIR_OBJECTS, "p": ("pair", ("p", 7))}, "p")
        self.assertEqual(graph, Graph(PAIRS, PAIR_OBJECTS))


class WordsTest(GraphTest):
    def test_words(self):
        objects = {"x": ("a", ("y", ("y", 3, "x", 3), (-1, "x", "y"))), "y": ("b", ()), "z": ("a", (5, (), ()))}
        graph = Graph(FORMS, objects)
        self.assertEqual(graph.words("x", "one"), ("y",))
        self.assertEqual(graph.words("x", "row"), ("y", 3, "x", 3))
        self.assertEqual(graph.words("x", "set"), (-1, "x", "y"))
        self.assertEqual(graph.words(name="z", slot="one"), (5,))
        self.assertEqual(graph.words("z", "row"), ())
        self.assertEqual(graph.words("z", "set"), ())

    def test_no_name(self):
        graph = Graph(PAIRS, PAIR_OBJECTS)
        for value in [*ODD_VALUES, "box", "q", ["p"], ("p",), {"p": 1}, "bp"]:
            self.no_name(value, graph.words, value, "left")
            self.no_name(value, graph.words, value, None)
            self.no_name(value, graph.words, value, ["left"])
        for value in [*ODD_VALUES, "items", "p", ["left"], ("left",), {"left": 1}, "lef"]:
            self.no_name(value, graph.words, "p", value)
        self.no_name("left", graph.words, "b", "left")
        with self.assertRaises(NoName):
            graph.words(slot="left", name="q")
        self.assertEqual(graph.objects, PAIR_OBJECTS)


class HashesTest(GraphTest):
    def test_only_slots_that_are_read(self):
        graph = Graph(NODES, {"a": ("node", (("d", 3, "b", "d"), ("c",))), "b": ("node", ((), ("a", "b"))),
                              "c": ("node", ((1, "c"), ())), "d": ("in", (("a", "c"),))})
        self.assertEqual(hashes(graph, "a"), ["b", "d"])
        self.assertEqual(hashes(graph, "b"), [])
        self.assertEqual(hashes(graph=graph, name="c"), ["c"])
        self.assertEqual(hashes(graph, "d"), [])

    def test_over_several_slots(self):
        slots = (("x", "first", "one", ("", "a")), ("y", "later", "set", ("a",)), ("z", "later", "row", ("a",)))
        contents = {"p": ("a", ("q", ("r",), ("s", "q"))), "q": ("a", (0, (), ())), "r": ("a", (0, (), ())),
                    "s": ("a", (0, (), ()))}
        for read, found in (("own", []), ((), []), (("x",), ["q"]), (("y",), ["r"]), (("z",), ["q", "s"]),
                            (("x", "y"), ["q", "r"]), (("x", "y", "z"), ["q", "r", "s"])):
            graph = Graph(Schema([("a", slots, read)]), contents)
            self.assertEqual(hashes(graph, "p"), found)

    def test_no_name(self):
        graph = Graph(PAIRS, PAIR_OBJECTS)
        for value in [*ODD_VALUES, "box", "q", ["p"], ("p",), {"p": 1}]:
            self.no_name(value, hashes, graph, value)
        with self.assertRaises(NoName):
            hashes(name="q", graph=graph)

    def test_returned_lists_are_new(self):
        graph = Graph(PAIRS, PAIR_OBJECTS)
        hashes(graph, "p").append("z")
        members(graph).append("z")
        reached(graph, ["b"]).append("z")
        self.assertEqual((hashes(graph, "p"), members(graph), reached(graph, ["b"])), (["b"], ["p"], ["b", "p"]))


class MembersTest(GraphTest):
    def test_members(self):
        objects = {"w": ("b", ()), "x": ("a", ("w", ("x",), (3, "y", "z"))), "y": ("a", (0, ("w",), ("z",))),
                   "z": ("b", ())}
        self.assertEqual(members(Graph(FORMS, objects)), ["y", "z"])
        self.assertEqual(members(graph=Graph(FORMS, {"w": ("b", ())})), [])

    def test_ascending_each_once(self):
        graph = Graph(NODES, {"i": ("in", (("q", "r"),)), "j": ("in", (("p", "r"),)), "p": ("node", ((), ())),
                              "q": ("node", ((), ())), "r": ("node", ((), ()))})
        self.assertEqual(members(graph), ["p", "q", "r"])

    def test_first_and_later_slots(self):
        for when in ("first", "later"):
            for read in ("own", (), ("x",)):
                schema = Schema([("a", (("x", when, "set", ("a",)),), read)])
                self.assertEqual(members(Graph(schema, {"p": ("a", (("p", "q"),)), "q": ("a", ((),))})), ["p", "q"])

    def test_rows_and_single_words_have_no_members(self):
        self.assertEqual(members(Graph(ROWS, {"x": ("t", (("x",),))})), [])
        self.assertEqual(members(Graph(CELLS, {"x": ("cell", (1,))})), [])


class SoundTest(GraphTest):
    def check(self, graph):
        """Compares the answers with point [21], told by steps of every length."""
        led = {name: set(hashes(graph, name)) for name in graph.names}
        hashed = set(members(graph))
        for _ in led:
            hashed |= {other for name in hashed for other in led[name]}
        further = {name: set(led[name]) for name in led}
        for _ in led:
            further = {name: further[name].union(*(led[other] for other in further[name])) for name in led}
        sound = not any(name in further[name] for name in hashed)
        self.assertIs(is_sound(graph), sound)
        walk = endless(graph)
        self.assertEqual(walk, endless(Graph(graph.schema, graph.objects)))
        if sound:
            self.assertIs(walk, None)
        else:
            self.check_walk(graph, walk)
        return sound

    def check_walk(self, graph, walk):
        self.assertIs(type(walk), tuple)
        self.assertIn(walk[0], members(graph))
        for one, other in zip(walk, walk[1:]):
            self.assertIn(other, hashes(graph, one))
        self.assertIn(walk[-1], walk[:-1])

    def nodes(self, held, led):
        objects = {name: ("node", (tuple(led[name]), tuple(led)[:4])) for name in led}
        objects["in"] = ("in", (tuple(held),))
        return Graph(NODES, objects)

    def test_all_graphs_of_three_nodes(self):
        names = "pqr"
        some = [names_in for many in range(4) for names_in in itertools.combinations(names, many)]
        sound = 0
        for held, *led in itertools.product(some, repeat=4):
            sound += self.check(self.nodes(held, dict(zip(names, led))))
        self.assertGreater(sound, 512)
        self.assertLess(sound, 4096)

    def test_object_that_hashes_itself(self):
        self.assertEqual(endless(self.nodes("p", {"p": "p"})), ("p", "p"))
        self.assertIs(endless(self.nodes("", {"p": "p"})), None)
        self.assertIs(is_sound(graph=self.nodes("p", {"p": "p"})), False)
        self.assertEqual(endless(graph=self.nodes("p", {"p": "p"})), ("p", "p"))

    def test_way_to_a_ring(self):
        graph = self.nodes("p", {"p": "q", "q": "r", "r": "q"})
        self.assertEqual(endless(graph), ("p", "q", "r", "q"))

    def test_ring_that_no_member_leads_to(self):
        graph = self.nodes("s", {"p": "q", "q": "pr", "r": "", "s": "r"})
        self.assertIs(is_sound(graph), True)

    def test_second_member(self):
        graph = self.nodes("ps", {"p": "", "q": "q", "r": "q", "s": "pr"})
        self.assertEqual(endless(graph), ("s", "r", "q", "q"))

    def test_own_hash_ends(self):
        graph = Graph(NODES, {"i": ("in", (("p",),)), "p": ("node", (("i",), ("p",)))})
        self.assertTrue(self.check(graph))

    def test_hash_that_reads_a_set(self):
        schema = Schema([("a", (("x", "later", "set", ("", "a")),), ("x",))])
        self.assertFalse(self.check(Graph(schema, {"p": ("a", (("p",),))})))
        self.assertFalse(self.check(Graph(schema, {"p": ("a", (("q",),)), "q": ("a", (("p",),))})))
        self.assertTrue(self.check(Graph(schema, {"p": ("a", (("q",),)), "q": ("a", ((1,),))})))

    def test_longest_ring(self):
        names = names_of(23)
        led = {name: [other] for name, other in zip(names, names[1:] + names[:1])}
        self.assertFalse(self.check(self.nodes(names[:1], led)))
        led[names[-1]] = []
        self.assertTrue(self.check(self.nodes(names[:1], led)))


class ReachedTest(GraphTest):
    def setUp(self):
        self.graph = Graph(NODES, {
            "a": ("node", (("b", 5), ())), "b": ("node", ((), ("c", "a"))), "c": ("node", ((), ())),
            "d": ("in", (("a", "e"),)), "e": ("node", (("e",), ())), "f": ("node", (("d",), ()))})

    def test_by_words_of_any_slots(self):
        for roots, found in ((["a"], "abc"), (["b"], "abc"), (["c"], "c"), (["d"], "abcde"), (["e"], "e"),
                             (["f"], "abcdef"), ([], ""), (["c", "e"], "ce"), (["e", "c", "e", "e"], "ce"),
                             (["e", "b"], "abce"), (list("abcdef"), "abcdef")):
            self.assertEqual(reached(self.graph, roots), list(found))
            self.assertEqual(reached(self.graph, tuple(roots)), list(found))
            self.assertEqual(reached(graph=self.graph, roots=roots), list(found))

    def test_roots_are_not_changed(self):
        roots = ["d", "a"]
        reached(self.graph, roots)
        self.assertEqual(roots, ["d", "a"])

    def test_first_slots(self):
        graph = Graph(PAIRS, PAIR_OBJECTS)
        self.assertEqual(reached(graph, ["p"]), ["b", "p"])
        self.assertEqual(reached(Graph(ROWS, {"x": ("t", (("y",),)), "y": ("t", ((),))}), ["x"]), ["x", "y"])

    def bad_roots(self, roots, index):
        before = copy.deepcopy(roots)
        with self.assertRaises(BadRoots) as caught:
            reached(self.graph, roots)
        self.assertEqual(caught.exception.index, index)
        self.assertIs(type(caught.exception.index), int)
        self.assertEqual(roots, before)

    def test_no_list(self):
        for value in ODD_VALUES:
            if value not in ([], ()):
                self.bad_roots(value, 0)
        for value in ("a", "ab", {"a": 1}, {}, {"a": ["b"], "b": ["c"]}, 0, None, True):
            self.bad_roots(value, 0)

    def test_first_item_that_is_no_object(self):
        for value in [*ODD_VALUES, "g", "node", "ab", ["a"], ("a",), {"a": 1}]:
            self.bad_roots([value], 0)
            self.bad_roots((value,), 0)
            self.bad_roots(["a", value], 1)
            self.bad_roots(["a", "a", "f", value, "a", value], 3)
            self.bad_roots(("c", value, None), 1)


if __name__ == "__main__":
    unittest.main()
