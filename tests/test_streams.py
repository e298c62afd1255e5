"""Streams that are read, and streams of graphs: points [60] and [61]."""

import collections
import copy
import itertools
import random
import unittest

from halfbuilt.alike import is_same, same
from halfbuilt.depth import early, order
from halfbuilt.errors import BadRoots, BadStream, NoOrder, NotSound
from halfbuilt.graphs import Graph, reached
from halfbuilt.plans import is_plan
from halfbuilt.schemas import Schema
from halfbuilt.streams import depth_stream, read, stream_of
from tests import reference
from tests.samples import CELLS, ODD_VALUES, PAIRS, ROWS, deep

ALL = ("", "a", "b")
FORMS = Schema([
    ("a", (("lo", "later", "one", ALL), ("fr", "first", "row", ALL), ("fo", "first", "one", ALL),
           ("fs", "first", "set", ALL)), "own"),
    ("b", (("ls", "later", "set", ALL), ("lr", "later", "row", ALL)), "own"),
])
# Whether the hash of a "node" ends is open until "to" is filled in; "box" holds members.
NODES = Schema([
    ("box", (("has", "later", "set", ("", "box", "node")), ("gets", "first", "set", ("", "node"))), "own"),
    ("node", (("to", "later", "one", ("", "box", "node")), ("row", "later", "row", ("", "node")),
              ("tag", "later", "one", ("", "box", "node"))), ("row", "to")),
    ("some", (("in", "later", "set", ("", "node", "some")), ("by", "first", "row", ("", "node")),
              ("tag", "later", "one", ("",))), ("by", "in")),
])
MARK, POP, ROOT = ("mark",), ("pop",), ("root",)


def number(worth):
    return ("number", worth)


def get(k):
    return ("get", k)


def make(class_name):
    return ("make", class_name)


def put(slot):
    return ("put", slot)


def put_into(k, word, slot):
    return [get(k), word, put(slot), POP]


# Node 0 with its single words filled in, and a box 1.
FILLED = [make("node"), number(1), put("to"), number(2), put("tag"), POP, MARK, make("box"), POP]


class StreamTest(unittest.TestCase):
    def builds(self, schema, stream, objects, roots=()):
        before = copy.deepcopy(stream), schema.classes
        found = read(schema, stream)
        self.assertIs(type(found), tuple)
        graph, found_roots = found
        self.assertIs(type(graph), Graph)
        self.assertIs(type(found_roots), tuple)
        self.assertEqual((graph.schema, graph.objects, found_roots), (schema, objects, roots))
        self.assertEqual(reference.read_stream(schema, stream), (objects, roots))
        self.assertEqual((stream, schema.classes), before)

    def wrong(self, schema, stream, index):
        before = copy.deepcopy(stream), schema.classes
        with self.assertRaises(BadStream) as caught:
            read(schema, stream)
        self.assertEqual(caught.exception.index, index, stream)
        self.assertIs(type(caught.exception.index), int)
        self.assertEqual((stream, schema.classes), before)
        if isinstance(stream, (list, tuple)):
            self.assertEqual(reference.read_stream(schema, stream), index)

    def last_wrong(self, schema, stream):
        """The last operation is the first wrong one, also if others come behind it."""
        self.wrong(schema, stream, len(stream) - 1)
        self.wrong(schema, (*stream, POP, ("no",), 3), len(stream) - 1)


class ReadTest(StreamTest):
    def test_examples(self):
        stream = [make("cell"), number(5), put("value"), ROOT]
        self.builds(CELLS, stream, {"oa": ("cell", (5,))}, ("oa",))
        self.wrong(CELLS, [make("cell"), put("value")], 1)

    def test_nothing(self):
        for stream in ([], ()):
            self.builds(CELLS, stream, {})

    def test_parameters_by_name(self):
        graph, roots = read(stream=(make("b"), ROOT), schema=FORMS)
        self.assertEqual((graph.objects, roots), ({"oa": ("b", ((), ()))}, ("oa",)))

    def test_first_slots_are_taken_from_the_last_one_on(self):
        stream = [MARK, number(1), number(2), number(3), MARK, number(9), number(8), make("a"), number(4), put("lo"),
                  POP]
        self.builds(FORMS, stream, {"oa": ("a", (4, (1, 2), 3, (8, 9)))})

    def test_rows_keep_their_order_and_sets_are_ascending(self):
        stream = [make("b"), make("b"), MARK, get(1), number(7), get(0), get(1), number(-1), MARK, get(1), number(5),
                  get(0), number(-5), make("a"), get(2), put("lo"), POP, POP, POP]
        self.builds(FORMS, stream, {"oa": ("b", ((), ())), "ob": ("b", ((), ())),
                                    "oc": ("a", ("oc", ("ob", 7, "oa", "ob"), -1, (-5, 5, "oa", "ob")))})

    def test_empty_rows_and_sets(self):
        self.builds(FORMS, [MARK, number(0), MARK, make("a"), number(0), put("lo"), POP],
                    {"oa": ("a", (0, (), 0, ()))})

    def test_only_what_is_above_the_last_mark_is_taken(self):
        stream = [number(6), MARK, number(7), MARK, number(0), MARK, make("a"), number(1), put("lo"), ROOT, POP,
                  make("b"), POP]
        self.wrong(FORMS, stream, len(stream))
        self.wrong(FORMS, [*stream, POP], len(stream))
        stream = [number(7), MARK, number(0), MARK, make("a"), number(1), put("lo"), ROOT, POP]
        self.builds(FORMS, stream, {"oa": ("a", (1, (), 0, ()))}, ("oa",))

    def test_puts(self):
        stream = [make("b"), number(3), put("ls"), number(-2), put("ls"), number(4), put("lr"), get(0), put("lr"),
                  number(4), put("lr"), get(0), put("ls"), POP]
        self.builds(FORMS, stream, {"oa": ("b", ((-2, 3, "oa"), (4, "oa", 4)))})

    def test_roots(self):
        stream = [make("b"), make("b"), ROOT, get(0), ROOT, ROOT, get(1), get(0), POP, ROOT]
        self.builds(FORMS, stream, {"oa": ("b", ((), ())), "ob": ("b", ((), ()))}, ("ob", "oa", "oa", "ob"))

    def test_numbers(self):
        for worth in (-999, -1, 0, 999):
            self.builds(FORMS, [make("b"), number(worth), put("lr"), ROOT], {"oa": ("b", ((), (worth,)))}, ("oa",))

    def test_four_words_in_a_slot(self):
        words = [number(worth) for worth in (5, 4, 3, 2)]
        stream = [MARK, *words, number(1), MARK, *words, make("a"), number(1), put("lo"), POP]
        self.builds(FORMS, stream, {"oa": ("a", (1, (5, 4, 3, 2), 1, (2, 3, 4, 5)))})
        for slot, held in (("ls", ((2, 3, 4, 5), ())), ("lr", ((), (5, 4, 3, 2)))):
            puts = [operation for word in words for operation in (word, put(slot))]
            self.builds(FORMS, [make("b"), *puts, POP], {"oa": ("b", held)})

    def test_twenty_four_objects(self):
        names = ["o" + letter for letter in "abcdefghijklmnopqrstuvwx"]
        stream = [operation for _ in names for operation in (make("b"), ROOT)]
        self.builds(FORMS, stream, {name: ("b", ((), ())) for name in names}, tuple(names))
        for k, name in enumerate(names):
            self.assertEqual(read(FORMS, [*stream, get(k), ROOT])[1][-1], name)
        self.last_wrong(FORMS, [*stream, make("b")])
        self.last_wrong(FORMS, [*stream, MARK, number(1), MARK, make("a")])

    def test_two_thousand_operations(self):
        objects = [operation for _ in range(24) for operation in (make("node"), POP)]
        rows = [operation for k in range(24) for other in (k + 1, k + 2, 0, 0)
                for operation in put_into(k, get(other % 24), "row")]
        filled = [operation for k in range(24) for slot in ("to", "tag")
                  for operation in put_into(k, get((k + 1) % 24) if slot == "tag" else number(k), slot)]
        stream = objects + rows + filled
        stream += [operation for k in range(24) for operation in (number(k), POP)]
        stream += [operation for _ in range((2000 - len(stream)) // 2) for operation in (get(5), ROOT)]
        self.assertEqual(len(stream), 2000)
        graph, roots = read(NODES, stream)
        self.assertEqual((len(graph.names), set(roots)), (24, {"of"}))
        self.assertEqual(graph.objects["oc"], ("node", (2, ("od", "oe", "oa", "oa"), "od")))


class WrongOperationTest(StreamTest):
    def test_no_list(self):
        for value in [*ODD_VALUES, "stream", {("mark",): 1}, {}, ROOT[0]]:
            if not isinstance(value, (list, tuple)):
                self.wrong(FORMS, value, 0)

    def test_any_value_as_an_operation(self):
        unknown = ["mark", ["mark"], ("marks",), ("mark", 0), ("pop", 1), ("root", "oa"), ("number",), ("get",),
                   ("make",), ("put",), ("number", 1, 2), ("get", 0, 0), ("make", "b", "b"), ("put", "lr", 0), ("",),
                   ["make", "b"], ("Mark",), ({"mark": 1},), (("mark",),), (["mark"],), {"mark": 1}, deep("mark")]
        for value in [*ODD_VALUES, *unknown]:
            self.wrong(FORMS, [value], 0)
            self.wrong(FORMS, (make("b"), value, value), 1)
            self.wrong(FORMS, [make("b"), number(1), put("lr"), value, ROOT], 3)

    def test_any_value_in_an_operation(self):
        for value in [*ODD_VALUES, "oa", "b", "lr", 1, 2, -1]:
            if value not in (0, 1, -1, 2, 999) or isinstance(value, bool):
                self.wrong(FORMS, [make("b"), number(value), POP, POP], 1)
            if value not in (0, 1) or isinstance(value, bool):
                self.wrong(FORMS, [make("b"), make("b"), get(value), POP, POP, POP], 2)
            if value != "b":
                self.wrong(FORMS, [MARK, number(1), MARK, make(value)], 3)
            if value != "lr":
                self.wrong(FORMS, [make("b"), number(1), put(value)], 2)

    def test_numbers_out_of_bounds(self):
        for worth in (-1000, 1000, 10 ** 99):
            self.last_wrong(FORMS, [number(worth)])

    def test_objects_that_are_not_there(self):
        self.last_wrong(FORMS, [get(0)])
        self.last_wrong(FORMS, [make("b"), get(1)])
        self.last_wrong(FORMS, [make("b"), get(-1)])

    def test_make_without_what_it_takes(self):
        first = [MARK, number(1), number(2), MARK, number(3)]
        self.builds(FORMS, [*first, make("a"), number(0), put("lo"), POP], {"oa": ("a", (0, (1,), 2, (3,)))})
        for at in (0, 3):
            self.last_wrong(FORMS, first[:at] + first[at + 1:] + [make("a")])
        self.last_wrong(FORMS, [make("a")])
        self.last_wrong(FORMS, [MARK, MARK, make("a")])
        self.last_wrong(FORMS, [MARK, number(1), make("a")])
        # A mark where a single word must be.
        self.last_wrong(FORMS, [number(1), MARK, MARK, number(2), make("a")])
        self.last_wrong(Schema([("a", (("x", "first", "one", ("",)),), "own")]), [make("a")])
        self.last_wrong(Schema([("a", (("x", "first", "one", ("",)),), "own")]), [MARK, make("a")])

    def test_put_without_what_it_takes(self):
        self.last_wrong(FORMS, [put("lr")])
        self.last_wrong(FORMS, [make("b"), put("lr")])
        self.last_wrong(FORMS, [number(1), put("lr")])
        self.last_wrong(FORMS, [make("b"), MARK, put("lr")])
        self.last_wrong(FORMS, [make("b"), MARK, number(1), put("lr")])
        self.last_wrong(FORMS, [make("b"), number(2), number(1), put("lr")])

    def test_put_into_other_slots(self):
        made = [MARK, number(1), MARK, make("a")]
        self.last_wrong(FORMS, [*made, number(1), put("fr")])
        self.last_wrong(FORMS, [*made, number(1), put("fs")])
        self.last_wrong(FORMS, [*made, number(1), put("lr")])
        self.last_wrong(FORMS, [*made, number(1), put("a")])
        self.last_wrong(FORMS, [make("b"), number(1), put("lo")])

    def test_pop_and_root_without_what_they_take(self):
        self.last_wrong(FORMS, [POP])
        self.last_wrong(FORMS, [make("b"), MARK, POP])
        self.last_wrong(FORMS, [make("b"), POP, POP])
        self.last_wrong(FORMS, [ROOT])
        self.last_wrong(FORMS, [make("b"), ROOT, ROOT])
        self.last_wrong(FORMS, [make("b"), MARK, ROOT])
        self.last_wrong(FORMS, [make("b"), number(0), ROOT])

    def test_words_that_are_not_allowed(self):
        schema = Schema([("a", (("n", "first", "one", ("",)), ("o", "first", "row", ("a",)), ("p", "first", "set",
                                                                                              ("b",))), "own"),
                         ("b", (("n", "later", "row", ("",)), ("o", "later", "set", ("a",)),
                                ("p", "later", "one", ("b",))), "own")])
        base = [make("b"), get(0), put("p"), POP, number(1), MARK, MARK, get(0), make("a"), POP]
        self.builds(schema, base, {"oa": ("b", ((), (), "oa")), "ob": ("a", (1, (), ("oa",)))})
        for n, o, p in ((get(0), [], []), (number(1), [number(1)], []), (number(1), [get(0)], []),
                        (number(1), [get(1), get(0)], []), (number(1), [], [number(1)]), (number(1), [], [get(1)])):
            self.last_wrong(schema, [*base, n, MARK, *o, MARK, *p, make("a")])
        more = [*base, make("b"), get(0), put("p")]
        for word, slot in ((get(0), "n"), (get(1), "n"), (number(1), "o"), (get(0), "o")):
            self.last_wrong(schema, [*more, word, put(slot)])
        for word in (number(1), get(1)):
            self.last_wrong(schema, [*base, make("b"), word, put("p")])

    def test_five_words_in_a_slot(self):
        words = [number(worth) for worth in (5, 4, 3, 2, 1)]
        self.last_wrong(FORMS, [MARK, *words, number(1), MARK, make("a")])
        self.last_wrong(FORMS, [MARK, number(1), MARK, *words, make("a")])
        for slot in ("ls", "lr"):
            self.last_wrong(FORMS, [make("b"), *[operation for word in words for operation in (word, put(slot))]])

    def test_single_words_are_put_in_once(self):
        made = [MARK, number(1), MARK, make("a"), number(1), put("lo")]
        self.last_wrong(FORMS, [*made, number(1), put("lo")])
        self.last_wrong(FORMS, [*made, get(0), put("lo")])

    def test_a_set_gets_a_word_twice(self):
        for word in (number(1), get(0)):
            self.last_wrong(FORMS, [make("b"), word, put("ls"), number(2), put("ls"), word, put("ls")])
            self.last_wrong(FORMS, [make("b"), MARK, number(1), MARK, word, number(2), word, make("a")])

    def test_streams_that_are_not_whole(self):
        for stream in ([number(1)], [MARK], [make("b")], [make("b"), get(0), ROOT],
                       [MARK, number(1), MARK, make("a"), POP], [MARK, number(1), MARK, make("a"), ROOT],
                       [make("node"), number(1), put("to"), POP], [make("node"), number(1), put("tag"), POP]):
            schema = NODES if ("make", "node") in stream else FORMS
            self.wrong(schema, stream, len(stream))
            self.wrong(schema, tuple(stream), len(stream))
        self.builds(NODES, [make("node"), number(1), put("tag"), number(1), put("to"), POP],
                    {"oa": ("node", (1, (), 1))})


class UsedTest(StreamTest):
    """Objects that are not settled, and puts into what hashes read."""

    def test_single_words_that_are_missing(self):
        made = [make("node"), POP, MARK, make("box")]
        self.last_wrong(NODES, [*made, get(0), put("has")])
        self.last_wrong(NODES, [make("node"), MARK, get(0), make("box")])
        # "tag" is not read.
        tagged = [*put_into(0, number(1), "tag")]
        self.last_wrong(NODES, [*made, POP, *tagged, get(1), get(0), put("has")])
        filled = [*made, POP, *put_into(0, number(1), "to"), *put_into(1, get(0), "has"), *tagged]
        self.builds(NODES, filled, {"oa": ("node", (1, (), 1)), "ob": ("box", (("oa",), ()))})

    def test_rows_and_numbers_need_not_be_settled(self):
        stream = [make("node"), make("node"), get(0), put("row"), POP, get(0), put("to"), number(1), put("tag"), POP,
                  *put_into(1, number(1), "to"), *put_into(1, get(0), "tag")]
        self.builds(NODES, stream, {"oa": ("node", ("oa", (), 1)), "ob": ("node", (1, ("oa",), "oa"))})

    def test_what_is_hashed_must_be_settled(self):
        # Node 0 hashes node 1 by "to", node 1 hashes node 2 by "row".
        stream = [make("node"), make("node"), put("to"), number(0), put("tag"), POP, get(1), make("node"), put("row"),
                  number(0), put("tag"), number(0), put("to"), POP, MARK, make("box"), POP]
        unfilled = put_into(3, get(0), "has")
        self.wrong(NODES, stream + unfilled, len(stream) + 2)
        self.wrong(NODES, stream + put_into(3, get(1), "has"), len(stream) + 2)
        filled = stream + put_into(2, number(0), "to") + put_into(2, number(0), "tag")
        self.builds(NODES, filled + unfilled,
                    {"oa": ("node", ("ob", (), 0)), "ob": ("node", (0, ("oc",), 0)), "oc": ("node", (0, (), 0)),
                     "od": ("box", (("oa",), ()))})

    def test_rings_are_never_settled(self):
        box = [POP, MARK, make("box")]
        for ring in ([make("node"), get(0), put("to")], [make("node"), number(0), put("to"), get(0), put("row")]):
            self.last_wrong(NODES, [*ring, *box, get(0), put("has")])
        pair = [make("node"), make("node"), get(0), put("to"), put("row"), number(0), put("to")]
        self.last_wrong(NODES, [*pair, *box, get(0), put("has")])
        self.last_wrong(NODES, [*pair, *box, get(1), put("has")])

    def test_own_hashes_end(self):
        # A box that is not filled in can be put into a set, also into itself.
        stream = [MARK, make("box"), get(0), put("has"), number(1), put("has"), POP]
        self.builds(NODES, stream, {"oa": ("box", ((1, "oa"), ()))})

    def test_puts_into_used_objects(self):
        used = [*FILLED, *put_into(1, get(0), "has"), get(0)]
        for word in (number(1), get(0), make("node")):
            self.last_wrong(NODES, [*used, word, put("row")])
        for holder in ([MARK, get(0), make("box"), POP], [MARK, make("box"), get(0), put("has"), POP],
                       [MARK, make("some"), get(0), put("in"), number(0), put("tag"), POP]):
            self.last_wrong(NODES, [*FILLED, *holder, get(0), number(1), put("row")])
        # In a row it is not used.
        self.builds(NODES, [*FILLED, make("node"), get(0), put("row"), number(0), put("to"), number(0), put("tag"), POP,
                            get(0), number(1), put("row"), POP],
                    {"oa": ("node", (1, (1,), 2)), "ob": ("box", ((), ())), "oc": ("node", (0, ("oa",), 0))})

    def test_puts_into_slots_that_are_not_read(self):
        stream = [make("node"), number(1), put("to"), POP, MARK, make("box"), get(0), put("has"), POP,
                  *put_into(0, get(1), "tag")]
        self.builds(NODES, stream, {"oa": ("node", (1, (), "ob")), "ob": ("box", (("oa",), ()))})

    def test_puts_into_what_used_objects_hash(self):
        # Node 2 hashes node 0; it is put into the box 1.
        hashing = [make("node"), get(0), put("row"), number(0), put("to"), number(0), put("tag"), POP]
        used = [*FILLED, *hashing, *put_into(1, get(2), "has")]
        self.last_wrong(NODES, [*used, get(0), number(1), put("row")])
        self.last_wrong(NODES, [*used, get(2), number(1), put("row")])
        self.builds(NODES, [*FILLED, *hashing, *put_into(0, number(1), "row"), *put_into(1, get(2), "has")],
                    {"oa": ("node", (1, (1,), 2)), "ob": ("box", (("oc",), ())), "oc": ("node", (0, ("oa",), 0))})
        # Another step further: node 3 hashes node 2.
        more = [make("node"), get(2), put("to"), number(0), put("tag"), POP]
        self.last_wrong(NODES, [*FILLED, *hashing, *more, *put_into(1, get(3), "has"), get(0), number(1), put("row")])

    def test_words_are_used_at_once(self):
        # The hash of a "some" reads its set: its own word would hash it.
        some = [MARK, make("some")]
        self.last_wrong(NODES, [*some, get(0), put("in")])
        # "some" 1 hashes "some" 0 by its row of nodes: not possible; by its set it can.
        two = [MARK, make("some"), MARK, make("some"), get(0), put("in")]
        self.last_wrong(NODES, [*two, number(1), put("tag"), POP, number(1), put("tag"), get(1), put("in")])
        # What is in its set is used; it is not used itself.
        stream = [*two, number(1), put("in"), number(2), put("tag"), POP, number(1), put("tag"), POP]
        self.builds(NODES, stream, {"oa": ("some", ((), (), 1)), "ob": ("some", ((1, "oa"), (), 2))})
        self.last_wrong(NODES, [*two, POP, number(1), put("in")])

    def test_words_that_hash_the_object_over_others(self):
        # b hashes c by a row, c hashes b's word: to put c into the set of b, which its hash reads, is wrong.
        schema = Schema([("b", (("s", "later", "set", ("b", "c")),), ("s",)),
                         ("c", (("r", "later", "row", ("b", "c")),), ("r",))])
        made = [make("b"), make("c"), get(0), put("r"), make("c"), get(1), put("r")]
        for k in (1, 2):
            self.last_wrong(schema, [*made, POP, POP, get(k), put("s")])
        self.builds(schema, [*made, POP, POP, POP, make("b"), get(2), put("s"), POP],
                    {"oa": ("b", ((),)), "ob": ("c", (("oa",),)), "oc": ("c", (("ob",),)), "od": ("b", (("oc",),))})

    def test_sets_that_are_given_first(self):
        schema = Schema([("a", (("s", "first", "set", ("a", "b")),), ("s",)),
                         ("b", (("x", "later", "one", ("",)), ("r", "later", "row", ("", "a"))), ("r", "x"))])
        stream = [MARK, MARK, make("b"), number(1), put("x"), get(0), POP, make("a"), make("a"), POP]
        objects = {"oa": ("b", (1, ())), "ob": ("a", (("oa",),)), "oc": ("a", (("ob",),))}
        self.builds(schema, stream, objects)
        self.last_wrong(schema, [*stream, get(0), number(1), put("r")])
        self.last_wrong(schema, [MARK, MARK, make("b"), make("a")])

    def test_kept_while_the_stream_goes_on(self):
        # Objects that are used stay settled whatever is put in.
        graph, _ = read(NODES, [*FILLED, *put_into(1, get(0), "has"), *put_into(1, number(3), "has"),
                                *put_into(1, get(1), "has")])
        self.assertEqual(graph.objects["ob"], ("box", ((3, "oa", "ob"), ())))


class DrawnStreamsTest(StreamTest):
    """Streams that are changed at random, held against the plain writing of the points."""

    def drawn(self, rng, schema, made):
        word = rng.choice(["number", "get", "get", "mark", "make", "put", "put", "pop", "root"])
        if word == "number":
            return number(rng.choice([0, 1, 2]))
        if word == "get":
            return get(rng.randrange(max(1, made)))
        if word == "make":
            return make(rng.choice(schema.names))
        if word == "put":
            return put(rng.choice([slot[0] for _, slots, _ in schema.classes for slot in slots] or ["x"]))
        return (word,)

    def changed(self, rng, schema, stream):
        stream = list(stream)
        for _ in range(rng.choice([1, 1, 1, 2])):
            at = rng.randrange(len(stream) + 1)
            made = [operation[0] for operation in stream[:at]].count("make")
            way = rng.randrange(5)
            if way == 0:
                del stream[at:at + 1]
            elif way == 1:
                stream[at:at] = [self.drawn(rng, schema, made)]
            elif way == 2:
                stream[at:at + 1] = [self.drawn(rng, schema, made)]
            elif way == 3 and at < len(stream):
                other = rng.randrange(len(stream))
                stream[at], stream[other] = stream[other], stream[at]
            elif made:
                word = rng.choice([get(rng.randrange(made)), number(rng.randrange(3))])
                slots = [slot[0] for _, slots, _ in schema.classes for slot in slots] or ["x"]
                stream[at:at] = put_into(rng.randrange(made), word, rng.choice(slots))
        return stream

    def test_streams_at_random(self):
        rng = random.Random(61)
        counts = collections.Counter()
        for at in range(500):
            schema = NODES if at % 3 == 0 else reference.some_schema(rng, classes=3, most_slots=4)
            for graph in reference.some_graphs(rng, schema, (2, 3, 4, 5)):
                if reference.is_sound(graph) and reference.has_plan(graph):
                    whole = stream_of(graph, [rng.choice(graph.names) for _ in range(rng.randint(1, 3))])
                    for _ in range(4):
                        stream = self.changed(rng, schema, whole)
                        wanted = reference.read_stream(schema, stream)
                        if isinstance(wanted, int):
                            self.wrong(schema, stream, wanted)
                            counts[(*stream, ("end",))[wanted][0]] += 1
                        else:
                            self.builds(schema, stream, *wanted)
                            self.check_plan(schema, stream)
                            counts["whole"] += 1
        self.assertEqual(len(counts), 7, counts)
        self.assertGreater(min(counts.values()), 50, counts)

    def check_plan(self, schema, stream):
        """The order of making and putting is a plan of the graph."""
        graph, _ = read(schema, stream)
        plain, events = reference.PlainStream(schema), []
        for operation in stream:
            if operation[0] == "put":
                word, name = plain.stack[-1], plain.stack[-2]
                form = [slot[2] for slot in schema.slots(plain.made[name][0]) if slot[0] == operation[1]][0]
                # The words of a set are counted as they stand in the graph.
                k = (graph.words(name, operation[1]).index(word) if form == "set"
                     else len(plain.made[name][1][operation[1]]))
                events.append(("put", name, operation[1], k))
            plain.do(operation)
            if operation[0] == "make":
                events.append(("make", sorted(plain.made)[-1]))
        self.assertIs(is_plan(graph, tuple(events)), True)
        self.assertTrue(reference.is_plan(graph, tuple(events)))


class StreamOfTest(StreamTest):
    def check(self, graph, roots, stream):
        """Checks that a stream builds the graph of what roots lead to, and returns its makes and puts."""
        self.assertIs(type(stream), tuple)
        found, found_roots = read(graph.schema, stream)
        names = reached(graph, roots)
        makes = [operation for operation in stream if operation[0] == "make"]
        self.assertEqual(len(makes), len(names))
        self.assertEqual(len(found.names), len(names))
        self.assertEqual(len(found_roots), len(roots))
        images = same(graph, roots, found, found_roots)
        self.assertIs(is_same(graph, roots, found, found_roots, images), True)
        self.assertIs(is_same(graph, list(roots), found, found_roots, images), True)
        return self.events_of(graph, stream, {image: name for name, image in images.items()})

    def events_of(self, graph, stream, names):
        """The makes and puts of a stream, with the names of the graph from which it was made."""
        plain, events = reference.PlainStream(graph.schema), []
        for operation in stream:
            if operation[0] == "put":
                word = names.get(plain.stack[-1], plain.stack[-1])
                events.append(("put", names[plain.stack[-2]], operation[1], word))
            plain.do(operation)
            if operation[0] == "make":
                events.append(("make", names[sorted(plain.made)[-1]]))
        return events

    def refused(self, error, ask, graph, roots):
        before = copy.deepcopy(roots), graph.objects
        with self.assertRaises(error) as caught:
            ask(graph, roots)
        self.assertEqual((roots, graph.objects), before)
        return getattr(caught.exception, "index", None)

    def test_example(self):
        graph = Graph(PAIRS, {"b": ("box", (("p",),)), "p": ("pair", ("b", 7))})
        for ask in (stream_of, depth_stream):
            for roots in (["b"], ["p"], ("b", "p"), ["p", "b", "p", "p"], ["b", "b"]):
                self.check(graph, roots, ask(graph, roots))
                self.assertEqual(ask(roots=roots, graph=graph), ask(graph, roots))

    def test_no_roots(self):
        graph = Graph(PAIRS, {"b": ("box", (("p",),)), "p": ("pair", ("b", 7))})
        for ask in (stream_of, depth_stream):
            self.assertEqual(ask(graph, []), ())
            self.assertEqual(ask(graph, ()), ())
            self.assertEqual(ask(Graph(PAIRS, {}), []), ())

    def test_only_what_roots_lead_to(self):
        graph = Graph(PAIRS, {"b": ("box", ((1,),)), "c": ("box", (("p",),)), "p": ("pair", ("b", 7))})
        for ask in (stream_of, depth_stream):
            self.assertEqual(len(read(PAIRS, ask(graph, ["b"]))[0].names), 1)
            self.assertEqual(len(read(PAIRS, ask(graph, ["p"]))[0].names), 2)
            self.assertEqual(len(read(PAIRS, ask(graph, ["c"]))[0].names), 3)

    def test_all_forms(self):
        graph = Graph(FORMS, {"p": ("a", ("q", (1, "q", 1, "r"), "q", (-3, 2, "q", "r"))),
                              "q": ("b", ((0, "p", "q", "r"), ("r", "p", 5, "r"))), "r": ("b", ((), (9,)))})
        for ask in (stream_of, depth_stream):
            for roots in (["p"], ["q"], ["r", "q", "r"], ["r"]):
                self.check(graph, roots, ask(graph, roots))

    def test_the_largest_graphs(self):
        schema = Schema([("a", tuple((name, "later", form, ("a",)) for name, form in zip("wxyz", ("row", "set") * 2)),
                          "own")])
        names = ["o" + letter for letter in "abcdefghijklmnopqrstuvwx"]
        objects = {}
        for k, name in enumerate(names):
            held = tuple(sorted(names[(k + step) % 24] for step in (1, 5, 7, 11)))
            objects[name] = ("a", (held, held, held[::-1], held))
        graph = Graph(schema, objects)
        for ask in (stream_of, depth_stream):
            stream = ask(graph, names)
            self.assertLessEqual(len(stream), 2000)
            self.check(graph, names, stream)

    def test_not_sound(self):
        schema = Schema([("a", (("s", "later", "set", ("a",)),), ("s",))])
        graph = Graph(schema, {"p": ("a", (("p",),)), "q": ("a", ((),))})
        for ask in (stream_of, depth_stream):
            for roots in (["p"], ["q"], [], None, ["z"], {"p": 1}):
                self.refused(NotSound, ask, graph, roots)

    def test_bad_roots(self):
        ring = Graph(ROWS, {"p": ("t", (("p",),)), "q": ("t", ((),))})
        for ask in (stream_of, depth_stream):
            for value in [*ODD_VALUES, "p", "q", {"q": 1}, {}]:
                if value not in ([], ()):
                    self.assertEqual(self.refused(BadRoots, ask, ring, value), 0)
            for value in [*ODD_VALUES, "z", "t", ["q"], ("q",)]:
                self.assertEqual(self.refused(BadRoots, ask, ring, [value]), 0)
                self.assertEqual(self.refused(BadRoots, ask, ring, ("q", "p", value, value)), 2)

    def test_no_plan(self):
        graph = Graph(ROWS, {"p": ("t", (("p",),)), "q": ("t", ((),)), "r": ("t", (("p",),))})
        self.refused(NoOrder, stream_of, graph, ["p"])
        self.refused(NoOrder, stream_of, graph, ["q", "r"])
        # What roots do not lead to does not matter for stream_of, but for the depth-first order of the whole graph.
        self.check(graph, ["q"], stream_of(graph, ["q"]))
        self.refused(NoOrder, depth_stream, graph, ["q"])
        self.refused(NoOrder, depth_stream, graph, [])
        self.assertEqual(stream_of(graph, []), ())

    def test_sets_that_roots_do_not_lead_to(self):
        # With the box, the node must be ready before its own word is made; without it there is a plan.
        schema = Schema([("box", (("has", "first", "set", ("node",)),), "own"),
                         ("node", (("to", "later", "one", ("", "box")),), ("to",))])
        graph = Graph(schema, {"b": ("box", (("n",),)), "m": ("node", (1,)), "n": ("node", ("b",))})
        self.refused(NoOrder, stream_of, graph, ["b"])
        self.refused(NoOrder, stream_of, graph, ["n"])
        self.check(graph, ["m"], stream_of(graph, ["m"]))
        self.check(graph, ["m"], depth_stream(graph, ["m"]))
        self.refused(NoOrder, depth_stream, graph, ["n"])

    def test_early_uses(self):
        odd = Schema([("box", (("items", "later", "set", ("pair",)),), "own"),
                      ("pair", (("back", "later", "one", ("box",)), ("tag", "later", "one", ("",))), ("tag",))])
        graph = Graph(odd, {"b": ("box", (("p",),)), "p": ("pair", ("b", 7))})
        self.refused(NoOrder, depth_stream, graph, ["p"])
        self.check(graph, ["p"], stream_of(graph, ["p"]))
        for roots in (["b"], ["b", "p"]):
            events = self.check(graph, roots, depth_stream(graph, roots))
            self.assertEqual(events, [("make", "b"), ("make", "p"), ("put", "p", "back", "b"), ("put", "p", "tag", 7),
                                      ("put", "b", "items", "p")])

    def test_graphs_at_random(self):
        rng = random.Random(60)
        counts = collections.Counter()
        for _ in range(250):
            schema = reference.some_schema(rng, classes=3, most_slots=4)
            for graph in reference.some_graphs(rng, schema, (1, 3, 4, 6)):
                roots = [rng.choice(graph.names) for _ in range(rng.randint(0, 3))]
                if not reference.is_sound(graph):
                    continue
                names = reference.all_reached(graph, roots)
                part = Graph(schema, {name: row for name, row in graph.objects.items() if name in names})
                if reference.has_plan(part):
                    self.check(graph, roots, stream_of(graph, roots))
                else:
                    self.refused(NoOrder, stream_of, graph, roots)
                counts["plan", reference.has_plan(part)] += 1
                if reference.has_order(graph) and not reference.depth_first(graph, roots)[1]:
                    events = self.check(graph, roots, depth_stream(graph, roots))
                    self.assertEqual(events, [self.with_word(graph, event) for event in order(graph, roots)])
                    counts["order", True] += 1
                else:
                    self.refused(NoOrder, depth_stream, graph, roots)
                    counts["order", False] += 1
        self.assertEqual(len(counts), 4)
        self.assertGreater(min(counts.values()), 50)

    def with_word(self, graph, event):
        """An event with the word that is put in instead of its place."""
        return event if event[0] == "make" else (*event[:3], graph.words(event[1], event[2])[event[3]])

    def test_all_small_graphs(self):
        slots = [("x", when, form, ("", "a")) for when in ("first", "later") for form in ("one", "set")]
        for one, other in itertools.product(slots, [("y", when, "set", ("a",)) for when in ("first", "later")]):
            for read_slots in ("own", ("x",), ("x", "y")):
                schema = Schema([("a", (one, other), read_slots)])
                for graph in reference.small_graphs(schema, "pq", 1):
                    if reference.is_sound(graph) and reference.has_plan(graph):
                        self.check(graph, ["p", "q"], stream_of(graph, ["p", "q"]))
                        if reference.has_order(graph) and not early(graph, ["q"]):
                            self.check(graph, ["q"], depth_stream(graph, ["q"]))


if __name__ == "__main__":
    unittest.main()
