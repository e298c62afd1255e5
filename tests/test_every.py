"""Kinds, ranks, good and bad schemas: points [40] to [42]."""

import copy
import itertools
import random
import unittest

from halfbuilt.every import decided, is_ranks, kinds
from halfbuilt.graphs import Graph
from halfbuilt.plans import is_cycle, plan
from halfbuilt.schemas import Schema
from tests import reference
from tests.samples import CELLS, ODD_VALUES, PAIRS, ROWS, deep

# Objects of the class "b" can never be in a set: their hashes lead from one to the next.
NEVER = Schema([
    ("a", (("has", "first", "set", ("b",)),), "own"),
    ("b", (("from", "first", "row", ("a",)), ("to", "later", "one", ("b",))), ("to",)),
])
ENDING = Schema([
    ("a", (("has", "first", "set", ("b",)),), "own"),
    ("b", (("from", "first", "row", ("a",)), ("to", "later", "one", ("", "b"))), ("to",)),
])
# Each make needs the next one strictly, and each claim needs the next one, by slots that are read.
STEPS = Schema([
    ("a", (("x", "first", "one", ("", "b")),), ("x",)),
    ("b", (("x", "first", "row", ("c",)),), ("x",)),
    ("c", (("x", "first", "set", ("d",)), ("y", "later", "set", ("a", "c"))), ("x",)),
    ("d", (), "own"),
])
STEP_RANKS = {("make", "a"): 3, ("make", "b"): 2, ("make", "c"): 1, ("make", "d"): 0,
              ("ready", "a"): 0, ("ready", "b"): 0, ("ready", "c"): 0, ("ready", "d"): 0}


def put_in_later(schema, pairs):
    rows = []
    for name, slots, read in schema.classes:
        whens = ["later" if (name, slot[0]) in pairs else slot[1] for slot in slots]
        rows.append((name, tuple((slot[0], when, *slot[2:]) for slot, when in zip(slots, whens)), read))
    return Schema(rows)


def firsts_of(schema):
    return [(name, slot[0]) for name, slots, _ in schema.classes for slot in slots if slot[1] == "first"]


class EveryTest(unittest.TestCase):
    def check(self, schema):
        """Checks the certificate of the answer, and returns the word and the number of objects of the cycle."""
        answer = decided(schema)
        self.assertEqual(decided(Schema(list(schema.classes))), answer)
        if answer[0] == "good":
            self.assertEqual(len(answer), 2)
            self.check_ranks(schema, answer[1])
            return "good", None
        self.assertEqual((answer[0], len(answer)), ("bad", 3))
        _, graph, cycle = answer
        self.assertIs(type(graph), Graph)
        self.assertEqual(graph.schema, schema)
        self.assertTrue(reference.is_sound(graph))
        self.assertFalse(reference.has_plan(graph))
        needs = reference.all_needs(graph)
        self.assertIs(type(cycle), tuple)
        for at, item in enumerate(cycle):
            self.assertIn(cycle[(at + 1) % len(cycle)], needs[item])
        self.assertIs(is_cycle(graph, cycle), True)
        self.assertEqual(plan(graph)[0], "cycle")
        return "bad", len({item[1] for item in cycle})

    def check_ranks(self, schema, ranks):
        self.assertIs(type(ranks), dict)
        self.assertEqual(list(ranks), sorted(ranks))
        self.assertEqual(sorted(ranks), sorted(reference.needs_of_kinds(schema)))
        self.assertTrue(all(type(rank) is int and 0 <= rank <= 99 for rank in ranks.values()))
        self.assertTrue(reference.are_ranks(schema, ranks))
        self.assertIs(is_ranks(schema, ranks), True)

    def bad_with(self, schema, many):
        self.assertEqual(self.check(schema), ("bad", many))

    def good(self, schema):
        self.assertEqual(self.check(schema), ("good", None))


class KindsTest(EveryTest):
    def test_kinds(self):
        self.assertEqual(kinds(PAIRS), [("make", "box"), ("make", "pair"), ("ready", "box"), ("ready", "pair")])
        self.assertEqual(kinds(schema=CELLS), [("make", "cell"), ("ready", "cell")])

    def test_ready_for_grounded_classes_only(self):
        self.assertEqual(kinds(NEVER), [("make", "a"), ("make", "b"), ("ready", "a")])
        self.assertEqual(kinds(ENDING), [("make", "a"), ("make", "b"), ("ready", "a"), ("ready", "b")])
        self.assertEqual(kinds(Schema([("a", (("x", "later", "one", ("a",)),), ("x",))])), [("make", "a")])

    def test_returned_lists_are_new(self):
        kinds(PAIRS).clear()
        self.assertEqual(len(kinds(PAIRS)), 4)
        self.assertIs(type(kinds(PAIRS)), list)


class RanksTest(EveryTest):
    def test_least_and_greater_ones(self):
        self.check_ranks(STEPS, STEP_RANKS)
        self.assertIs(is_ranks(schema=STEPS, thing=STEP_RANKS), True)
        for more in (1, 50, 96):
            self.assertIs(is_ranks(STEPS, {kind: rank + more for kind, rank in STEP_RANKS.items()}), True)
        self.assertIs(is_ranks(STEPS, {kind: rank + 97 for kind, rank in STEP_RANKS.items()}), False)
        self.assertIs(is_ranks(STEPS, {kind: rank * 33 for kind, rank in STEP_RANKS.items()}), True)
        self.assertIs(is_ranks(STEPS, {**STEP_RANKS, ("make", "a"): 99}), True)
        self.assertIs(is_ranks(STEPS, {**STEP_RANKS, ("make", "a"): 100}), False)

    def test_the_order_of_the_dict_has_no_meaning(self):
        self.assertIs(is_ranks(STEPS, dict(reversed(STEP_RANKS.items()))), True)

    def test_each_rank_one_more_or_less(self):
        for kind in STEP_RANKS:
            for rank in range(-2, 6):
                changed = {**STEP_RANKS, kind: rank}
                self.assertIs(is_ranks(STEPS, changed), rank >= 0 and reference.are_ranks(STEPS, changed))
        for name, other in ("a", ("make", "b")), ("b", ("make", "c")), ("c", ("ready", "d")):
            self.assertIs(is_ranks(STEPS, {**STEP_RANKS, ("make", name): STEP_RANKS[other]}), False)

    def test_needs_that_are_not_strict(self):
        for name, other in (("a", "b"), ("b", "c"), ("c", "d")):
            ranks = {**STEP_RANKS, ("ready", other): 1, ("make", "a"): 5, ("make", "b"): 4, ("make", "c"): 3}
            self.assertIs(is_ranks(STEPS, ranks), False)
            for before in "abc"[:"abcd".index(other)]:
                ranks[("ready", before)] = 1
            self.assertIs(is_ranks(STEPS, ranks), True)

    def test_kinds_left_out_and_put_in(self):
        for kind in STEP_RANKS:
            rest = {other: rank for other, rank in STEP_RANKS.items() if other != kind}
            self.assertIs(is_ranks(STEPS, rest), False)
            for odd in (("make", "z"), ("ready", "z"), ("save", "a"), "a", 0, None, ("make",), ("make", "a", 0), ()):
                self.assertIs(is_ranks(STEPS, {**STEP_RANKS, odd: 0}), False)
                changed = {odd if other == kind else other: rank for other, rank in STEP_RANKS.items()}
                self.assertIs(is_ranks(STEPS, changed), False)
        self.assertIs(is_ranks(NEVER, {("make", "a"): 0, ("make", "b"): 1, ("ready", "a"): 0}), True)
        ranks = {("make", "a"): 0, ("make", "b"): 1, ("ready", "a"): 0, ("ready", "b"): 0}
        self.assertIs(is_ranks(NEVER, ranks), False)

    def test_ranks_that_are_no_integers(self):
        for value in [*ODD_VALUES, "0", [0], (0,), {0: 0}, 10 ** 99, -1, 100]:
            right = isinstance(value, int) and not isinstance(value, bool) and 0 <= value <= 99
            self.assertIs(is_ranks(CELLS, {("make", "cell"): value, ("ready", "cell"): 0}), right)
            self.assertIs(is_ranks(CELLS, {("make", "cell"): 0, ("ready", "cell"): value}), right)
        for bools in ({0: False, 1: True, 2: 2, 3: 3}, {0: 0, 1: True, 2: 2, 3: 3}):
            self.assertIs(is_ranks(STEPS, {kind: bools[rank] for kind, rank in STEP_RANKS.items()}), False)

    def test_values_that_are_no_dicts(self):
        for value in [*ODD_VALUES, list(STEP_RANKS.items()), tuple(STEP_RANKS.items()), list(STEP_RANKS), "ranks",
                      [STEP_RANKS], (STEP_RANKS,), {"ranks": deep(0)}]:
            before = copy.deepcopy(value)
            for schema in (STEPS, PAIRS, CELLS, ROWS, NEVER):
                self.assertIs(is_ranks(schema, value), False)
            self.assertEqual(value, before)

    def test_bad_schemas_have_none(self):
        for make, ready in itertools.product(range(100), repeat=2):
            self.assertIs(is_ranks(ROWS, {("make", "t"): make, ("ready", "t"): ready}), False)

    def test_all_small_ranks(self):
        rng = random.Random(41)
        answers = {True: 0, False: 0}
        for _ in range(60):
            schema = reference.some_schema(rng)
            found = kinds(schema)
            for ranks in itertools.product(range(3), repeat=len(found)):
                thing = dict(zip(found, ranks))
                right = reference.are_ranks(schema, thing)
                self.assertIs(is_ranks(schema, thing), right)
                answers[right] += 1
        self.assertGreater(min(answers.values()), 200)


class DecidedTest(EveryTest):
    def test_examples(self):
        self.good(PAIRS)
        self.bad_with(ROWS, 1)
        self.good(CELLS)
        self.assertEqual(decided(schema=PAIRS)[0], "good")

    def test_ranks_are_found(self):
        self.good(STEPS)
        self.good(NEVER)

    def test_what_is_returned_is_new(self):
        decided(STEPS)[1].clear()
        self.good(STEPS)
        decided(ROWS)[1].objects.clear()
        self.bad_with(ROWS, 1)

    def test_rings_of_makes(self):
        for many, names in enumerate(("a", "ab", "abc", "abcd"), 1):
            for form in ("one", "row"):
                pairs = zip(names, names[1:] + "a")
                schema = Schema([(name, (("x", "first", form, ("", other)),), "own") for name, other in pairs])
                self.bad_with(schema, many)
                self.good(put_in_later(schema, firsts_of(schema)))
                self.good(put_in_later(schema, [("a", "x")]))

    def test_rings_of_sets(self):
        for when, form, targets, read, answer in (
                ("first", "set", ("a",), "own", ("bad", 1)),
                ("first", "set", ("a",), (), ("bad", 1)),
                # Its hash reads the very slot: a ring of such objects is a ring of hashes.
                ("first", "set", ("a",), ("x",), ("good", None)),
                ("first", "row", ("", "a"), ("x",), ("bad", 1)),
                ("later", "set", ("a",), ("x",), ("good", None)),
                ("later", "set", ("a",), "own", ("good", None))):
            self.assertEqual(self.check(Schema([("a", (("x", when, form, targets),), read)])), answer)

    def test_member_that_reads_a_later_slot(self):
        schema = Schema([("box", (("has", "first", "set", ("node",)),), "own"),
                         ("node", (("to", "later", "one", ("box",)),), ("to",))])
        self.bad_with(schema, 2)
        # Not read, and the slot is filled in when it pleases.
        self.good(Schema([schema.classes[0], (*schema.classes[1][:2], "own")]))
        self.good(put_in_later(schema, [("box", "has")]))

    def test_classes_that_are_not_grounded(self):
        self.good(NEVER)
        self.bad_with(ENDING, 2)
        # Their objects fill single words all the same.
        self.bad_with(Schema([("a", (("f", "first", "row", ("a",)), ("o", "later", "one", ("b",))), "own"),
                              ("b", (("to", "first", "one", ("c",)),), ("to",)),
                              ("c", (("by", "later", "one", ("b",)),), ("by",))]), 1)

    def test_hashes_of_other_words_end(self):
        # The hash of an object of "k" never ends; an object of "n" can be a member if one of "m" can fill its slot.
        box = ("box", (("has", "first", "set", ("n",)),), "own")
        endless = ("k", (("next", "later", "one", ("k",)),), ("next",))
        node = ("n", (("also", "first", "one", ("k", "m")), ("back", "later", "row", ("box",))), ("also", "back"))
        for targets, answer in ((("k",), ("good", None)), (("k", "n"), ("good", None)), (("m",), ("good", None)),
                                (("", "k"), ("bad", 2)), (("box", "k"), ("bad", 2))):
            middle = ("m", (("next", "later", "one", targets),), ("next",))
            self.assertEqual(self.check(Schema([box, endless, middle, node])), answer)

    def test_strict_needs_of_ready_objects(self):
        # A set in a slot that the hash does not read is given with the object itself.
        node = ("node", (("by", "first", "set", ("node",)), ("to", "first", "row", ("", "node"))), ("to",))
        self.bad_with(Schema([node]), 1)
        self.bad_with(Schema([("node", node[1][:1], "own")]), 1)
        # A ring of makes beside a claim: the hash reads both slots, so only makes remain.
        self.bad_with(Schema([("node", node[1], ("by", "to"))]), 1)
        self.good(Schema([("node", (node[1][0],), ("by",))]))

    def test_shortest_rings_are_taken(self):
        rows = [(name, (("x", "first", "one", ("", other)),), "own") for name, other in zip("abcd", "bcda")]
        self.bad_with(Schema(rows), 4)
        rows[2] = ("c", (*rows[2][1], ("y", "first", "row", ("b", "d"))), "own")
        self.bad_with(Schema(rows), 2)
        rows[3] = ("d", (*rows[3][1], ("y", "later", "row", ("d",))), "own")
        self.bad_with(Schema(rows), 2)
        rows[3] = ("d", (*rows[3][1][:1], ("y", "first", "set", ("d",))), "own")
        self.bad_with(Schema(rows), 1)

    def test_long_rings_of_claims(self):
        # The one strict need is the first slot of "a"; a claim leads back to it through all classes.
        rows = [("a", (("x", "first", "set", ("b",)),), "own")]
        rows += [(name, (("x", "later", "row", ("", other)),), ("x",)) for name, other in zip("bcd", "cda")]
        self.bad_with(Schema(rows), 4)
        for at in (1, 2, 3):
            changed = [*rows]
            changed[at] = (*rows[at][:2], ())
            self.good(Schema(changed))

    def test_schemas_without_first_slots(self):
        rng = random.Random(42)
        for _ in range(100):
            schema = reference.some_schema(rng, classes=4, most_slots=4)
            self.good(put_in_later(schema, firsts_of(schema)))

    def test_first_slots_filled_in_later_instead(self):
        rng = random.Random(43)
        many = 0
        for _ in range(300):
            schema = reference.some_schema(rng, likely=0.4)
            if decided(schema)[0] == "good":
                firsts = firsts_of(schema)
                for size in range(1, len(firsts) + 1):
                    for pairs in itertools.combinations(firsts, size):
                        self.good(put_in_later(schema, pairs))
                        many += 1
        self.assertGreater(many, 50)

    def test_certificates_at_random(self):
        rng = random.Random(44)
        answers = {}
        for _ in range(300):
            answer = self.check(reference.some_schema(rng, classes=4, likely=0.25))
            answers[answer] = answers.get(answer, 0) + 1
        for answer in (("good", None), ("bad", 1), ("bad", 2)):
            self.assertGreater(answers[answer], 5)

    def check_graphs(self, schema, graphs):
        """Compares the answer with these graphs: whether they have plans, and how few objects are on their cycles."""
        answer, many = self.check(schema)
        for graph in graphs:
            if reference.is_sound(graph) and not reference.has_plan(graph):
                self.assertEqual(answer, "bad")
                self.assertLessEqual(many, reference.fewest_objects(graph))

    def test_all_small_graphs_of_one_class(self):
        ones = itertools.product(("first", "later"), ("one", "row", "set"))
        others = itertools.product(("first", "later"), ("one", "set"))
        for one, other, read in itertools.product(ones, others, ("own", ("x",), ("y",), ("x", "y"))):
            schema = Schema([("a", (("x", *one, ("", "a")), ("y", *other, ("a",))), read)])
            self.check_graphs(schema, reference.small_graphs(schema, "p", 2))
            self.check_graphs(schema, itertools.islice(reference.small_graphs(schema, "pq", 1), 0, None, 3))

    def test_all_small_graphs_of_two_classes(self):
        slots = itertools.product(("first", "later"), ("one", "row", "set"))
        for slot, read, other in itertools.product(slots, ("own", ("x",)), ("own", ("x",))):
            schema = Schema([("a", (("x", "first", "set", ("a", "b")),), other),
                             ("b", (("x", *slot, ("", "a", "b")),), read)])
            self.check_graphs(schema, reference.small_graphs(schema, "p", 2))
            self.check_graphs(schema, reference.small_graphs(schema, "pq", 2))

    def test_graphs_at_random(self):
        rng = random.Random(45)
        for _ in range(150):
            schema = reference.some_schema(rng)
            self.check_graphs(schema, reference.some_graphs(rng, schema, (2, 3, 3, 4, 4)))


if __name__ == "__main__":
    unittest.main()
