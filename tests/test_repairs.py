"""Slots that are filled in later, and the minimal sets of them that make a schema good: points [41] and [42]."""

import copy
import itertools
import random
import unittest

from halfbuilt.errors import BadSchema
from halfbuilt.every import decided
from halfbuilt.repairs import later, repairs
from halfbuilt.schemas import Schema
from tests import reference
from tests.samples import CELLS, ODD_VALUES, PAIRS, ROWS, deep

MIXED = Schema([
    ("a", (("z", "first", "row", ("a", "b")), ("y", "later", "one", ("",)), ("x", "first", "set", ("", "b"))), ("x",)),
    ("b", (("x", "first", "one", ("", "a")), ("z", "later", "row", ("a",))), "own"),
])


def firsts_of(schema):
    return sorted((name, slot[0]) for name, slots, _ in schema.classes for slot in slots if slot[1] == "first")


def is_good(schema):
    """Whether there are ranks: whether no kind that is strictly needed leads back to the one that needs it."""
    needs = reference.needs_of_kinds(schema)
    steps = {kind: {other for other, _ in needs[kind]} for kind in needs}
    for kind in needs:
        for other, strict in needs[kind]:
            found = {other}
            while not found >= set().union(*(steps[some] for some in found)):
                found = found.union(*(steps[some] for some in found))
            if strict and kind in found:
                return False
    return True


def all_repairs(schema):
    """The minimal ones among all sets of first slots that make a schema good, by the words of the interface."""
    found = []
    firsts = firsts_of(schema)
    for many in range(len(firsts) + 1):
        for pairs in itertools.combinations(firsts, many):
            if not any(set(other) <= set(pairs) for other in found) and is_good(later(schema, pairs)):
                found.append(pairs)
    return found


class LaterTest(unittest.TestCase):
    def refused(self, schema, slots, index):
        before = copy.deepcopy(slots), schema.classes
        with self.assertRaises(BadSchema) as caught:
            later(schema, slots)
        self.assertEqual(caught.exception.name, index)
        self.assertIs(type(caught.exception.name), int)
        self.assertEqual((slots, schema.classes), before)

    def test_none(self):
        for schema in (MIXED, PAIRS, ROWS, CELLS):
            self.assertEqual(later(schema, []), schema)
            self.assertEqual(later(schema, ()), schema)

    def test_one_slot(self):
        self.assertEqual(later(ROWS, [("t", "of")]), Schema([("t", (("of", "later", "row", ("t",)),), "own")]))
        self.assertEqual(later(schema=MIXED, slots=[("a", "x")]), Schema([
            ("a", (("z", "first", "row", ("a", "b")), ("y", "later", "one", ("",)), ("x", "later", "set", ("", "b"))),
             ("x",)),
            ("b", (("x", "first", "one", ("", "a")), ("z", "later", "row", ("a",))), "own")]))

    def test_several_slots(self):
        changed = Schema([
            ("a", (("z", "later", "row", ("a", "b")), ("y", "later", "one", ("",)), ("x", "first", "set", ("", "b"))),
             ("x",)),
            ("b", (("x", "later", "one", ("", "a")), ("z", "later", "row", ("a",))), "own")])
        for slots in ([("a", "z"), ("b", "x")], [("b", "x"), ("a", "z")], (("b", "x"), ("a", "z"))):
            self.assertEqual(later(MIXED, slots), changed)
        every = later(MIXED, firsts_of(MIXED))
        self.assertEqual(firsts_of(every), [])
        self.assertEqual([row[2] for row in every.classes], [("x",), "own"])

    def test_arguments_are_not_changed(self):
        slots = [("b", "x"), ("a", "z")]
        before = MIXED.classes
        later(MIXED, slots)
        self.assertEqual(slots, [("b", "x"), ("a", "z")])
        self.assertEqual(MIXED.classes, before)
        self.assertIs(type(later(MIXED, slots)), Schema)

    def test_no_list(self):
        for value in [*ODD_VALUES, "az", {("a", "z"): 1}]:
            if value not in ([], ()):
                # A list of other values is refused at its first item.
                self.refused(MIXED, value, 0)

    def test_wrong_items(self):
        wrong = [("a", "y"), ("b", "z"), ("b", "y"), ("c", "z"), ("a", ""), ("", "z"), ("z", "a"), ["a", "z"], "az",
                 ("a",), ("a", "z", "x"), ("a", ["z"]), (("a", "z"),), {"a": "z"}, ("a", True), (1, "z"), deep("z")]
        for value in [*ODD_VALUES, *wrong]:
            self.refused(MIXED, [value], 0)
            self.refused(MIXED, [("a", "z"), value], 1)
            self.refused(MIXED, (("a", "z"), ("b", "x"), value, ("a", "x"), value), 2)

    def test_items_that_occur_before(self):
        self.refused(MIXED, [("a", "z"), ("a", "z")], 1)
        self.refused(MIXED, [("a", "z"), ("b", "x"), ("a", "x"), ("b", "x"), ("c", "x")], 3)
        self.refused(MIXED, [("a", "z"), ("c", "x"), ("a", "z")], 1)

    def test_a_slot_that_is_later_already(self):
        self.refused(later(MIXED, [("a", "z")]), [("a", "z")], 0)


class RepairsTest(unittest.TestCase):
    def check(self, schema, *sets):
        found = repairs(schema)
        self.assertEqual(found, list(sets))
        self.assertIs(type(found), list)
        for pairs in found:
            self.assertIs(type(pairs), tuple)
            self.assertEqual(list(pairs), sorted(set(pairs)))
            self.assertEqual(decided(later(schema, list(pairs)))[0], "good")
            for pair in pairs:
                rest = [other for other in pairs if other != pair]
                self.assertEqual(decided(later(schema, rest))[0], "bad")

    def test_examples(self):
        self.check(PAIRS, ())
        self.check(ROWS, (("t", "of"),))

    def test_good_schemas(self):
        self.check(CELLS, ())
        self.check(Schema([("a", (), "own")]), ())
        self.check(Schema([("a", (("x", "first", "row", ("b",)),), "own"), ("b", (), "own")]), ())

    def test_shorter_ones_first_then_ascending(self):
        schema = Schema([("a", (("y", "first", "row", ("b",)), ("x", "first", "row", ("b",))), "own"),
                         ("b", (("z", "first", "row", ("a",)),), "own")])
        self.check(schema, (("b", "z"),), (("a", "x"), ("a", "y")))
        schema = Schema([("a", (("y", "first", "row", ("b",)), ("x", "first", "row", ("c",))), "own"),
                         ("b", (("w", "first", "row", ("a",)),), "own"),
                         ("c", (("v", "first", "row", ("a",)),), "own")])
        self.check(schema, (("a", "x"), ("a", "y")), (("a", "x"), ("b", "w")), (("a", "y"), ("c", "v")),
                   (("b", "w"), ("c", "v")))

    def test_slots_that_are_in_each_repair_and_in_none(self):
        schema = Schema([("a", (("s", "first", "row", ("a",)), ("t", "first", "row", ("b",)),
                                ("u", "first", "one", ("",)), ("v", "first", "row", ("c",))), "own"),
                         ("b", (("w", "first", "set", ("a",)),), ("w",)), ("c", (), "own")])
        # A member of "b" hashes what is in "w", and what is made with it must be ready.
        self.check(schema, *all_repairs(schema))
        self.assertTrue(all(("a", "s") in pairs and ("a", "v") not in pairs for pairs in repairs(schema)))

    def test_needs_that_are_not_strict_are_not_cured(self):
        # Each make of "a" needs a claim that leads to the claim of "a" by what is read, and by a first slot on.
        schema = Schema([("a", (("s", "first", "set", ("b",)),), "own"),
                         ("b", (("r", "later", "row", ("a",)),), ("r",))])
        self.check(schema, (("a", "s"),))
        schema = Schema([("a", (("s", "first", "set", ("b",)),), ("s",)),
                         ("b", (("r", "first", "row", ("a",)),), ("r",))])
        self.check(schema, *all_repairs(schema))

    def test_all_schemas_of_one_class(self):
        slots = [[(name, when, form, ("", "a")) for when in ("first", "later") for form in ("one", "row", "set")]
                 for name in "xyz"]
        for rows in itertools.product(*slots):
            for read in ("own", ("x",), ("x", "y"), ("x", "y", "z")):
                schema = Schema([("a", rows, read)])
                self.check(schema, *all_repairs(schema))

    def test_schemas_at_random(self):
        rng = random.Random(42)
        many = 0
        for likely in (0.2, 0.3, 0.5):
            for _ in range(200):
                schema = reference.some_schema(rng, classes=4, most_slots=3, likely=likely)
                if len(firsts_of(schema)) <= 7:
                    wanted = all_repairs(schema)
                    self.check(schema, *wanted)
                    many += len(wanted) > 1
        self.assertGreater(many, 20)

    def test_the_largest_schemas(self):
        # All slots of four classes with four slots are first ones, and lead to one class or more.
        slots = tuple((name, "first", form, ("a", "b", "c", "d")) for name, form in zip("wxyz", ("row", "set") * 2))
        schema = Schema([(name, slots, ("w", "x")) for name in "abcd"])
        # To put ready objects into the sets "x", which the hashes read, is the end of all needs.
        self.check(schema, tuple(pair for pair in firsts_of(schema) if pair[1] != "x"))
        classes = []
        for name in "abcd":
            rows = tuple((letter, "first", "row", (target,)) for letter, target in zip("wxyz", "abcd"))
            classes.append((name, rows, "own"))
        found = repairs(Schema(classes))
        # What stays first puts the classes into one of their orders.
        self.assertEqual([len(pairs) for pairs in found], [10] * 24)
        for pairs in found:
            self.assertTrue(is_good(later(Schema(classes), pairs)))

    def test_good_schemas_stay_good(self):
        rng = random.Random(43)
        for _ in range(60):
            schema = reference.some_schema(rng, classes=3, likely=0.3)
            firsts = firsts_of(schema)
            for pairs in repairs(schema):
                more = [pair for pair in firsts if pair in pairs or rng.random() < 0.5]
                self.assertEqual(decided(later(schema, more))[0], "good")
            self.assertEqual(decided(later(schema, firsts))[0], "good")

    def test_returned_lists_are_new(self):
        repairs(ROWS).clear()
        self.check(ROWS, (("t", "of"),))
        before = MIXED.classes
        self.assertEqual(repairs(schema=MIXED), repairs(Schema(list(MIXED.classes))))
        self.assertEqual(MIXED.classes, before)


if __name__ == "__main__":
    unittest.main()
