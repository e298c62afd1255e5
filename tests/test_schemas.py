"""Names, schemas and grounded classes: points [3], [10], [11] and [12]."""

import copy
import itertools
import unittest

from halfbuilt.errors import BadSchema, NoName
from halfbuilt.graphs import Graph
from halfbuilt.schemas import Schema, is_name
from tests.samples import CELLS, ODD_VALUES, PAIRS, ROWS

BOX = ("box", (("items", "later", "set", ("", "pair")),), "own")
PAIR = ("pair", (("left", "first", "one", ("", "box")), ("tag", "later", "one", ("",))), ("left", "tag"))


def one_slot(slot):
    """Classes of which the second one has this slot."""
    return [("a", (), "own"), ("b", (slot,), "own"), ("c", (), "own")]


class NamesTest(unittest.TestCase):
    def test_lengths(self):
        for many in range(12):
            self.assertIs(is_name("q" * many), 1 <= many <= 6)

    def test_letters(self):
        for code in [*range(300), 0x3B1, 0x430, 0xFF41, 0x1D41A]:
            good = ord("a") <= code <= ord("z")
            self.assertIs(is_name(chr(code)), good, code)
            self.assertIs(is_name("ab" + chr(code)), good, code)
            self.assertIs(is_name(chr(code) + "ab"), good, code)

    def test_good_names(self):
        for name in ("a", "z", "az", "own", "first", "abcdef", "zzzzzz"):
            self.assertIs(is_name(name), True)
        self.assertIs(is_name(thing="abcdef"), True)
        self.assertIs(is_name(thing="abcdefg"), False)

    def test_other_values(self):
        for value in [*ODD_VALUES, ["a"], ("a",), {"a": "a"}, ["a", "b"], ("a", "b", "c"), 7]:
            before = copy.deepcopy(value)
            self.assertIs(is_name(value), False, value)
            self.assertEqual(value, before)


class MadeSchemasTest(unittest.TestCase):
    def test_example(self):
        self.assertEqual(PAIRS.names, ("box", "pair"))
        self.assertEqual(PAIRS.reads("pair"), ("left", "tag"))
        self.assertEqual(PAIRS.grounded(), ["box", "pair"])

    def test_classes_and_names(self):
        for given in ([BOX, PAIR], (BOX, PAIR)):
            schema = Schema(given)
            self.assertEqual(schema.classes, (BOX, PAIR))
            self.assertIs(type(schema.classes), tuple)
            self.assertEqual(schema.names, ("box", "pair"))
            self.assertIs(type(schema.names), tuple)
        self.assertEqual(Schema(classes=[BOX, PAIR]), PAIRS)

    def test_later_changes_of_the_list(self):
        given = [BOX, PAIR]
        schema = Schema(given)
        self.assertEqual(given, [BOX, PAIR])
        given.pop()
        given[0] = None
        self.assertEqual(schema.classes, (BOX, PAIR))
        self.assertEqual(schema.names, ("box", "pair"))
        self.assertEqual(schema, PAIRS)

    def test_properties_are_not_assigned(self):
        schema = Schema([BOX, PAIR])
        for name in ("classes", "names"):
            with self.assertRaises(AttributeError):
                setattr(schema, name, ())

    def test_largest(self):
        slots = tuple((name, "first", "row", ("", "a", "b", "c", "d")) for name in ("s", "r", "q", "p"))
        schema = Schema([(name, slots, ("p", "q", "r", "s")) for name in "abcd"])
        self.assertEqual(schema.names, ("a", "b", "c", "d"))
        self.assertEqual(schema.slots("d"), slots)
        self.assertEqual(schema.reads("d"), ("p", "q", "r", "s"))

    def test_all_slots(self):
        for when in ("first", "later"):
            for form in ("one", "row", "set"):
                for many in range(1, 5):
                    for targets in itertools.combinations(("", "a", "b", "c"), many):
                        schema = Schema(one_slot(("x", when, form, targets)))
                        self.assertEqual(schema.slots("b"), (("x", when, form, targets),))

    def test_names_may_be_words_of_the_document(self):
        schema = Schema([("own", (("own", "later", "set", ("own",)), ("first", "first", "one", ("",))), ("own",))])
        self.assertEqual(schema.reads("own"), ("own",))

    def test_equality(self):
        self.assertTrue(Schema([BOX, PAIR]) == Schema((BOX, PAIR)))
        self.assertFalse(Schema([BOX, PAIR]) != Schema((BOX, PAIR)))
        again = [Schema([BOX, PAIR]), Schema(one_slot(("x", "first", "one", ("",))))]
        again += [Schema(one_slot(("y", "first", "one", ("",)))), Schema(one_slot(("x", "later", "one", ("",))))]
        again += [Schema(one_slot(("x", "first", "row", ("",)))), Schema(one_slot(("x", "first", "one", ("a",))))]
        again += [Schema([("a", (), "own")]), Schema([("a", (), ())]), Schema([("b", (), "own")]), ROWS, CELLS]
        for one, other in itertools.product(range(len(again)), repeat=2):
            self.assertIs(again[one] == again[other], one == other)
            self.assertIs(again[one] != again[other], one != other)

    def test_order_of_slots_counts(self):
        first, second = ("x", "later", "one", ("",)), ("y", "later", "one", ("",))
        self.assertNotEqual(Schema([("a", (first, second), "own")]), Schema([("a", (second, first), "own")]))

    def test_unequal_to_other_values(self):
        for value in [*ODD_VALUES, PAIRS.classes, list(PAIRS.classes), PAIRS.names, "box", Graph(PAIRS, {}), Schema]:
            self.assertIs(PAIRS == value, False)
            self.assertIs(PAIRS != value, True)
            self.assertIs(value == PAIRS, False)


class AskedSchemasTest(unittest.TestCase):
    def test_slots(self):
        self.assertEqual(PAIRS.slots("box"), BOX[1])
        self.assertEqual(PAIRS.slots(name="pair"), PAIR[1])
        self.assertEqual(Schema([("a", (), "own")]).slots("a"), ())

    def test_reads(self):
        self.assertEqual(PAIRS.reads("box"), ())
        self.assertEqual(PAIRS.reads(name="pair"), ("left", "tag"))
        self.assertEqual(Schema([("a", (("x", "first", "one", ("",)),), ())]).reads("a"), ())
        slots = (("y", "first", "one", ("",)), ("x", "later", "set", ("",)), ("z", "later", "row", ("",)))
        self.assertEqual(Schema([("a", slots, ("x", "y"))]).reads("a"), ("x", "y"))

    def test_no_name(self):
        for value in [*ODD_VALUES, "a", "bo", "boxes", "left", "own", ["box"], ("box",), {"box": 1}]:
            for ask in (PAIRS.slots, PAIRS.reads):
                before = copy.deepcopy(value)
                with self.assertRaises(NoName) as caught:
                    ask(value)
                self.assertEqual(caught.exception.name, before)
                with self.assertRaises(NoName):
                    ask(name=value)
                self.assertEqual(value, before)
        self.assertEqual(PAIRS.classes, (BOX, PAIR))


class RefusedSchemasTest(unittest.TestCase):
    def check(self, classes, name):
        before = copy.deepcopy(classes)
        with self.assertRaises(BadSchema) as caught:
            Schema(classes)
        self.assertEqual(caught.exception.name, name, classes)
        self.assertIs(type(caught.exception.name), type(name))
        self.assertEqual(classes, before)

    def test_no_list_of_classes(self):
        for value in ODD_VALUES:
            self.check(value, None)
        for value in ("abc", {"a": (), "b": ()}, {BOX: 1}, BOX, [BOX[0]], PAIRS.classes[0]):
            self.check(value, None)

    def test_number_of_classes(self):
        five = [(name, (), "own") for name in "abcde"]
        for many in range(1, 5):
            self.assertEqual(Schema(five[:many]).names, tuple("abcde"[:many]))
        self.check([], None)
        self.check((), None)
        self.check(five, None)
        self.check(tuple(five), None)

    def test_no_triples(self):
        good = ("b", (), "own")
        for value in [*ODD_VALUES, ["a", (), "own"], ("a", ()), ("a", (), "own", ()), "abc", {"a": 1, "b": 2, "c": 3}]:
            self.check([value], None)
            self.check([value, good], None)
            self.check([("a", (), "own"), value], None)

    def test_wrong_names(self):
        for value in ODD_VALUES:
            self.check([(value, (), "own")], None)
            self.check([("a", (), "own"), (value, (), "own")], None)
            self.check([(value, (), "own"), ("b", (), "own")], None)

    def test_order_of_names(self):
        one, two, three = ("a", (), "own"), ("ab", (), "own"), ("b", (), "own")
        self.assertEqual(Schema([one, two, three]).names, ("a", "ab", "b"))
        for classes in ([one, one], [two, one], [one, three, two], [one, two, two], [three, one, two]):
            self.check(classes, None)

    def test_all_triples_before_all_classes(self):
        self.check([("a", None, None), None], None)
        self.check([("a", None, None), ("a", (), "own")], None)
        self.check([("a", None, None), ("B", (), "own")], None)

    def test_first_wrong_class(self):
        good = [(name, (), "own") for name in "abcd"]
        for many in range(1, 16):
            wrong = [at for at in range(4) if many >> at & 1]
            classes = [(good[at][0], None, "own") if at in wrong else good[at] for at in range(4)]
            self.check(classes, "abcd"[wrong[0]])

    def test_slots_are_no_tuple(self):
        for value in [*ODD_VALUES, "x", [("x", "first", "one", ("",))], {"x": 1}]:
            if value != ():
                self.check([("a", value, "own")], "a")
                self.check([("a", (), "own"), ("b", value, "own")], "b")

    def test_number_of_slots(self):
        slots = tuple((name, "first", "one", ("",)) for name in "vwxyz")
        self.assertEqual(Schema([("a", slots[:4], "own")]).slots("a"), slots[:4])
        self.check([("a", slots, "own")], "a")

    def test_no_slot(self):
        for value in [*ODD_VALUES, "abcd", ["x", "first", "one", ("",)], ("x", "first", "one"),
                      ("x", "first", "one", ("",), ()), ("x", "first", "one", "")]:
            self.check(one_slot(value), "b")
            self.check([("a", (("x", "first", "one", ("",)), value), "own")], "a")

    def test_parts_of_a_slot(self):
        good = ("x", "first", "one", ("",))
        Schema(one_slot(good))
        for at in range(4):
            # A word that is none of when or form may well be the name of a slot.
            for value in [*ODD_VALUES, "one ", "First"] + ["sets", "firsts", "a"] * (at > 0):
                slot = good[:at] + (value,) + good[at + 1:]
                self.check(one_slot(slot), "b")
        for slot in (("x", "one", "first", ("",)), ("x", "own", "one", ("",)), ("x", "first", "first", ("",))):
            self.check(one_slot(slot), "b")

    def test_slots_with_one_name(self):
        one, other = ("x", "first", "one", ("",)), ("x", "later", "set", ("a",))
        self.check([("a", (one, one), "own")], "a")
        self.check([("a", (one, other), "own")], "a")
        self.check([("a", (one, ("y", "later", "one", ("",)), other), "own")], "a")

    def test_targets(self):
        for targets in ((), ("d",), ("", "d"), ("a", "a"), ("", ""), ("b", "a"), ("a", ""), ("b", ""), ("a", "c", "b"),
                        [""], ["a"], ["a", "b"], "a", "", {"a": 1}, ("x",), ("own",), ("#",), ("a", None), (None, "a")):
            self.check(one_slot(("x", "first", "one", targets)), "b")
        for value in ODD_VALUES:
            if value != "":
                self.check(one_slot(("x", "first", "one", (value,))), "b")
                self.check(one_slot(("x", "first", "one", (value, "a"))), "b")
                self.check(one_slot(("x", "first", "one", ("", value))), "b")
            self.check(one_slot(("x", "first", "one", ("a", value))), "b")

    def test_hashes(self):
        slots = (("y", "first", "one", ("",)), ("x", "later", "set", ("",)))
        for read in ("own", (), ("x",), ("y",), ("x", "y")):
            self.assertEqual(Schema([("a", slots, read)]).classes, (("a", slots, read),))
        for read in [*ODD_VALUES, ("y", "x"), ("x", "x"), ("z",), ("x", "z"), ("a",), ["x"], ["x", "y"], "x", "xy",
                     "Own", ("own",), ("",), ("", "x"), {"x": 1}, ("x", None), (None, "x"), ("x", ["y"])]:
            if read != ():
                self.check([("a", slots, read)], "a")
        for value in ODD_VALUES:
            self.check([("a", slots, (value,))], "a")
            self.check([("a", slots, ("x", value))], "a")

    def test_slots_of_another_class(self):
        self.check([("a", (), ("x",)), ("b", (("x", "first", "one", ("",)),), "own")], "a")


class GroundedTest(unittest.TestCase):
    def grounded(self, *classes):
        schema = Schema(list(classes))
        found = schema.grounded()
        self.assertIs(type(found), list)
        found.append("changed")
        self.assertEqual(schema.grounded(), found[:-1])
        return found[:-1]

    def one(self, name, *targets):
        return (name, (("x", "first", "one", targets),), ("x",))

    def test_own(self):
        self.assertEqual(self.grounded(("a", (), "own"), ("b", (("x", "first", "one", ("b",)),), "own")), ["a", "b"])

    def test_reads_nothing(self):
        self.assertEqual(self.grounded(("a", (("x", "first", "one", ("a",)),), ())), ["a"])

    def test_rings(self):
        self.assertEqual(self.grounded(self.one("a", "a")), [])
        self.assertEqual(self.grounded(self.one("a", "b"), self.one("b", "a")), [])
        self.assertEqual(self.grounded(self.one("a", "b"), self.one("b", "c"), self.one("c", "a")), [])

    def test_rings_with_a_way_out(self):
        self.assertEqual(self.grounded(self.one("a", "", "a")), ["a"])
        self.assertEqual(self.grounded(self.one("a", "b"), self.one("b", "", "a")), ["a", "b"])
        self.assertEqual(self.grounded(self.one("a", "b"), self.one("b", "a", "c"), ("c", (), "own")), ["a", "b", "c"])

    def test_ring_beside_grounded_ones(self):
        self.assertEqual(self.grounded(self.one("a", "b"), self.one("b", "a"), self.one("c", "", "a")), ["c"])
        self.assertEqual(self.grounded(self.one("a", "d"), self.one("b", "b"), self.one("c", "b"), self.one("d", "")),
                         ["a", "d"])

    def test_long_ways(self):
        there = [self.one("a", "b"), self.one("b", "c"), self.one("c", "d"), self.one("d", "")]
        back = [self.one("a", ""), self.one("b", "a"), self.one("c", "b"), self.one("d", "c")]
        self.assertEqual(self.grounded(*there), ["a", "b", "c", "d"])
        self.assertEqual(self.grounded(*back), ["a", "b", "c", "d"])

    def test_rows_and_sets_may_be_empty(self):
        for form in ("row", "set"):
            for when in ("first", "later"):
                self.assertEqual(self.grounded(("a", (("x", when, form, ("a",)),), ("x",))), ["a"])
                self.assertEqual(self.grounded(self.one("a", "b"), ("b", (("x", when, form, ("a",)),), ("x",))),
                                 ["a", "b"])
        slots = (("x", "first", "row", ("a",)), ("y", "later", "one", ("a",)))
        self.assertEqual(self.grounded(("a", slots, ("x", "y"))), [])

    def test_each_read_slot_counts(self):
        slots = (("x", "first", "one", ("",)), ("y", "later", "one", ("a",)))
        for read, found in (("own", ["a"]), ((), ["a"]), (("x",), ["a"]), (("y",), []), (("x", "y"), [])):
            self.assertEqual(self.grounded(("a", slots, read)), found)

    def test_all_small_schemas(self):
        choices = [("own", form, targets) for form in ("one",) for targets in (("",),)]
        for form in ("one", "row", "set"):
            choices += [(("x",), form, targets) for targets in (("",), ("a",), ("b",), ("c",), ("a", "c"), ("", "b"))]
        for parts in itertools.product(choices, repeat=3):
            classes = [(name, (("x", "later", form, targets),), read)
                       for name, (read, form, targets) in zip("abc", parts)]
            self.assertEqual(Schema(classes).grounded(), smallest_closed(classes))


def smallest_closed(classes):
    """The members of all sets of classes that are closed under the rule of point [12]."""
    closed = []
    for many in range(len(classes) + 1):
        for names in itertools.combinations([one[0] for one in classes], many):
            if all(name in names or not follows(slots, read, names) for name, slots, read in classes):
                closed.append(set(names))
    return sorted(set.intersection(*closed))


def follows(slots, read, names):
    if read == "own":
        return True
    return all(form != "one" or slot not in read or {"", *names} & set(targets) for slot, _, form, targets in slots)


if __name__ == "__main__":
    unittest.main()
