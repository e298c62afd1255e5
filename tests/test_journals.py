"""Journals of editors, and how they are checked."""

import copy
import random
import unittest

from halfbuilt.editing import Editor
from halfbuilt.errors import BadJournal, BuildError
from halfbuilt.every import decided
from halfbuilt.graphs import Graph
from halfbuilt.journals import first_wrong, journal_of, replayed
from halfbuilt.schemas import Schema
from tests import reference
from tests.samples import ODD_VALUES, PAIRS, ROWS, deep

LATER = ("when", "t", "of", "later")
FIRST = ("when", "t", "of", "first")
UNDO = ("undo",)
RANKS = {("make", "t"): 0, ("ready", "t"): 0}
GOOD = ("good", RANKS)
BAD = ("bad", {"oa": ("t", (("oa",),))}, (("make", "oa"),))
# Sound graphs of ROWS with other cycles than decided returns.
OTHER_BAD = ("bad", {"p": ("t", (("q", "q"),)), "q": ("t", (("r",),)), "r": ("t", (("p",),)), "s": ("t", ((),))},
             (("make", "q"), ("make", "r"), ("make", "p")))


class JournalTest(unittest.TestCase):
    def wrong(self, schema, journal, row):
        """A row of any value as a journal is wrong, or none (None)."""
        before = copy.deepcopy(journal), schema.classes
        found = first_wrong(schema, journal)
        self.assertEqual(found, row, journal)
        self.assertIs(type(found), type(row))
        self.assertEqual(first_wrong(journal=journal, schema=schema), row)
        if row is None:
            self.assertIs(type(replayed(schema, journal)), Editor)
        else:
            with self.assertRaises(BadJournal) as caught:
                replayed(journal=journal, schema=schema)
            self.assertEqual(caught.exception.row, row)
            self.assertIs(type(caught.exception.row), int)
        self.assertEqual((journal, schema.classes), before)


class JournalOfTest(JournalTest):
    def check(self, editor, first):
        journal = journal_of(editor)
        self.assertIs(type(journal), list)
        before = Editor(first)
        for row, edit in zip(journal, editor.log()):
            self.assertIs(type(row), tuple)
            before.do(edit)
            answer = decided(before.schema)
            if answer[0] == "bad":
                answer = ("bad", answer[1].objects, answer[2])
            self.assertEqual(row, (edit, answer))
        self.assertEqual(len(journal), len(editor.log()))
        self.assertEqual(journal_of(editor=editor), journal)
        self.wrong(first, journal, None)
        self.assertEqual(replayed(first, journal), editor)
        return journal

    def test_no_edits(self):
        for schema in (ROWS, PAIRS):
            self.assertEqual(self.check(Editor(schema), schema), [])

    def test_good_and_bad(self):
        editor = Editor(ROWS)
        editor.do_all([LATER, FIRST])
        self.assertEqual([(edit, answer[0]) for edit, answer in self.check(editor, ROWS)],
                         [(LATER, "good"), (FIRST, "bad")])
        editor.do(UNDO)
        self.assertEqual(self.check(editor, ROWS), [(LATER, GOOD)])
        self.assertIs(type(journal_of(editor)[0][1]), tuple)

    def test_the_first_schema_is_behind_no_edit(self):
        editor = Editor(ROWS)
        editor.do_all([("reads", "t", ("of",)), LATER])
        self.assertEqual([answer[0] for _, answer in self.check(editor, ROWS)], ["bad", "good"])

    def test_what_is_returned_is_new(self):
        editor = Editor(ROWS)
        editor.do_all([LATER, FIRST])
        before = copy.deepcopy(journal_of(editor))
        journal = journal_of(editor)
        journal[0][1][1].clear()
        journal[1][1][1].clear()
        journal.clear()
        self.assertEqual(journal_of(editor), before)
        self.assertEqual(editor.log(), [LATER, FIRST])

    def test_twins_go_on(self):
        editor = Editor(ROWS)
        editor.do(LATER)
        other = editor.twin()
        other.do(FIRST)
        self.assertEqual(journal_of(editor), journal_of(other)[:1])
        self.check(other, ROWS)

    def test_editors_that_have_been_replayed(self):
        editor = Editor(ROWS)
        editor.do_all([LATER, ("reads", "t", ("of",)), FIRST])
        other = replayed(ROWS, journal_of(editor))
        self.assertEqual(other.log(), editor.log())
        other.do_all([UNDO] * 3)
        self.assertEqual((other.schema, other.log()), (ROWS, []))
        self.assertEqual(len(editor.log()), 3)

    def test_at_random(self):
        rng = random.Random(41)
        answers = {"good": 0, "bad": 0}
        for _ in range(60):
            schema = reference.some_schema(rng, classes=3)
            editor = Editor(schema)
            for _ in range(12):
                name = rng.choice(schema.names)
                slots = [slot[0] for slot in editor.schema.slots(name)] or ["z"]
                edit = rng.choice([("when", name, rng.choice(slots), rng.choice(["first", "later"])),
                                   ("move", name, rng.choice(slots), rng.randrange(3)), UNDO,
                                   ("drop", name, rng.choice(slots)), ("reads", name, (rng.choice(slots),)),
                                   ("targets", name, rng.choice(slots), ("", rng.choice(schema.names))),
                                   ("add", name, 0, ("new", "first", "set", (rng.choice(schema.names),)))])
                try:
                    answers[editor.do(edit)] += 1
                except BuildError:
                    pass
            self.check(editor, schema)
        self.assertGreater(min(answers.values()), 40)


class FirstWrongTest(JournalTest):
    def test_right_ones(self):
        for journal in ([], (), [(LATER, GOOD)], ((LATER, GOOD),), [(LATER, GOOD), (FIRST, BAD)]):
            self.wrong(ROWS, journal, None)

    def test_any_value(self):
        for value in [*ODD_VALUES, "journal", {0: (LATER, GOOD)}, {}, Editor(ROWS)]:
            if value not in ([], ()):
                self.wrong(ROWS, value, 0)

    def test_any_value_as_a_row(self):
        for value in [*ODD_VALUES, [LATER, GOOD], (LATER,), (LATER, GOOD, 0), LATER, GOOD, {LATER: "good"}]:
            self.wrong(ROWS, [value], 0)
            self.wrong(ROWS, [(LATER, GOOD), value, value], 1)
            self.wrong(ROWS, ((LATER, GOOD), (FIRST, BAD), (LATER, GOOD), value), 3)

    def test_any_value_as_an_edit_or_an_answer(self):
        for value in [*ODD_VALUES, [*LATER], "good", ("good",), ("bad",), [*GOOD], [*BAD], ("good", RANKS, RANKS),
                      BAD[:2], (*BAD, ()), ("Good", RANKS), ("bads", *BAD[1:]), ("yes", RANKS), (True, RANKS)]:
            self.wrong(ROWS, [(value, GOOD)], 0)
            self.wrong(ROWS, [(LATER, GOOD), (value, GOOD)], 1)
            self.wrong(ROWS, [(value, BAD)], 0)
            self.wrong(ROWS, [(LATER, value)], 0)
            self.wrong(ROWS, [(LATER, GOOD), (FIRST, value)], 1)

    def test_edits_that_are_refused(self):
        for edit in (UNDO, ("when", "t", "off", "later"), ("when", "u", "of", "later"), ("when", "t", "of", "never"),
                     ("reads", "t", ("if",)), ("move", "t", "of", 1), ("add", "t", 2, ("x", "later", "row", ("t",))),
                     ("add", "t", 0, ("of", "later", "row", ("t",))), ("when", "t", "of"), ["undo"],
                     ("when", "t", "of", ["later"]), ("targets", "t", "of", deep("t"))):
            self.wrong(ROWS, [(edit, GOOD)], 0)
            self.wrong(ROWS, [(edit, BAD)], 0)
            if edit != UNDO:
                self.wrong(ROWS, [(LATER, GOOD), (FIRST, BAD), (edit, GOOD)], 2)

    def test_answers_of_other_schemas(self):
        self.wrong(ROWS, [(LATER, BAD)], 0)
        self.wrong(ROWS, [(FIRST, GOOD)], 0)
        self.wrong(ROWS, [(FIRST, BAD)], None)
        self.wrong(ROWS, [(LATER, GOOD), (FIRST, GOOD)], 1)

    def test_ranks(self):
        for ranks in ({("make", "t"): 5, ("ready", "t"): 5}, {("make", "t"): 0, ("ready", "t"): 99},
                      {("ready", "t"): 7, ("make", "t"): 3}):
            self.wrong(ROWS, [(LATER, ("good", ranks))], None)
        for ranks in ({("make", "t"): 0}, {}, {("make", "t"): 0, ("ready", "t"): 100}, {"make": 0, "ready": 0},
                      {("make", "t"): 0, ("ready", "t"): -1}, {("make", "t"): True, ("ready", "t"): 0},
                      {("make", "t"): 0, ("ready", "u"): 0}, {**RANKS, ("make", "u"): 0}, sorted(RANKS.items())):
            self.wrong(ROWS, [(LATER, ("good", ranks))], 0)
            self.wrong(ROWS, [(FIRST, BAD), (LATER, ("good", ranks)), (LATER, GOOD)], 1)
        strict = ("add", "t", 1, ("n", "first", "row", ("u",)))
        both = Schema([*ROWS.classes, ("u", (), "own")])
        ranks = {**RANKS, ("make", "u"): 0, ("ready", "u"): 0}
        self.wrong(both, [(LATER, ("good", ranks)), (strict, ("good", ranks))], 1)
        self.wrong(both, [(LATER, ("good", ranks)), (strict, ("good", {**ranks, ("make", "t"): 1}))], 1)
        ranks = {**ranks, ("make", "t"): 1, ("ready", "t"): 2}
        self.wrong(both, [(LATER, ("good", ranks)), (strict, ("good", ranks))], None)

    def test_cycles(self):
        self.wrong(ROWS, [(FIRST, OTHER_BAD)], None)
        self.wrong(ROWS, [(FIRST, BAD), (FIRST, OTHER_BAD)], None)
        _, objects, cycle = OTHER_BAD
        for changed in (cycle[::-1], cycle[:2], (), list(cycle), (*cycle, ("make", "s")), (("make", "s"),), None,
                        (("make", "z"),), (("ready", "p"),), ("make", "p")):
            self.wrong(ROWS, [(FIRST, ("bad", objects, changed))], 0)
        self.wrong(ROWS, [(FIRST, ("bad", objects, cycle + cycle))], None)
        self.wrong(ROWS, [(FIRST, ("bad", objects, cycle[1:] + cycle[:1]))], None)

    def test_graphs(self):
        _, objects, cycle = OTHER_BAD
        for name in objects:
            for row in (("t", (("z",),)), ("t", ((1,),)), ("u", ((),)), ["t", ((),)], ("t", ()), ("t", ((), ())), None,
                        ("t", (["p"],)), ("t", ((),))):
                expected = None if name == "s" and row == ("t", ((),)) else 0
                self.wrong(ROWS, [(FIRST, ("bad", {**objects, name: row}, cycle))], expected)
            rest = {other: objects[other] for other in objects if other != name}
            self.wrong(ROWS, [(FIRST, ("bad", rest, cycle))], None if name == "s" else 0)
        self.wrong(ROWS, [(FIRST, ("bad", {**objects, "": ("t", ((),))}, cycle))], 0)
        self.wrong(ROWS, [(FIRST, ("bad", Graph(ROWS, objects), cycle))], 0)
        self.wrong(ROWS, [(FIRST, ("bad", sorted(objects.items()), cycle))], 0)
        many = {first + second: ("t", ((),)) for first in "pqrst" for second in "vwxyz"}
        self.wrong(ROWS, [(FIRST, ("bad", {**objects, **many}, cycle))], 0)

    def test_graphs_that_are_not_sound(self):
        # The ring of makes is one, but the graph has another object whose hash never ends.
        schema = Schema([("s", (("in", "first", "set", ("", "s")), ("to", "later", "row", ("s", "t"))), ("in",)),
                         ("t", (("of", "later", "row", ("t",)),), "own")])
        first = ("when", "t", "of", "first")
        ring = {"p": ("t", (("p",),))}
        self.wrong(schema, [(first, ("bad", ring, (("make", "p"),)))], None)
        self.wrong(schema, [(first, ("bad", {**ring, "q": ("s", ((), ("q",)))}, (("make", "p"),)))], None)
        self.wrong(schema, [(first, ("bad", {**ring, "q": ("s", (("q",), ()))}, (("make", "p"),)))], 0)

    def test_undo_is_an_edit(self):
        self.wrong(ROWS, [(LATER, GOOD), (UNDO, BAD)], None)
        self.wrong(ROWS, [(LATER, GOOD), (UNDO, BAD), (LATER, GOOD), (FIRST, OTHER_BAD), (UNDO, GOOD)], None)
        self.wrong(ROWS, [(LATER, GOOD), (UNDO, GOOD)], 1)
        self.wrong(ROWS, [(LATER, GOOD), (UNDO, BAD), (UNDO, BAD)], 2)
        self.wrong(ROWS, [(UNDO, BAD)], 0)
        editor = replayed(ROWS, [(LATER, GOOD), (UNDO, BAD), (LATER, GOOD), (FIRST, BAD), (UNDO, GOOD)])
        self.assertEqual(editor.log(), [LATER])
        self.assertEqual(replayed(ROWS, ((LATER, GOOD), (UNDO, BAD))), Editor(ROWS))

    def test_rows_changed_moved_left_out_and_doubled(self):
        editor = Editor(PAIRS)
        editor.do_all([("targets", "pair", "left", ("", "box", "pair")), ("when", "pair", "left", "later"),
                       ("targets", "box", "items", ("box", "pair")), ("when", "box", "items", "first"),
                       ("drop", "box", "items"), ("add", "box", 0, ("all", "first", "row", ("box",)))])
        journal = journal_of(editor)
        words = [answer[0] for _, answer in journal]
        self.assertEqual(words, ["bad", "good", "good", "bad", "good", "bad"])
        self.wrong(PAIRS, journal, None)
        for at, (edit, answer) in enumerate(journal):
            self.wrong(PAIRS, journal[:at], None)
            before, behind = journal[:at], journal[at + 1:]
            # The good schemas have the same ranks; and a ring of makes is there with a first set, too.
            for place, (_, other) in enumerate(journal):
                right = place == at or words[place] == words[at] == "good" or (at, place) == (3, 5)
                self.wrong(PAIRS, [*before, (edit, other), *behind], None if right else at)
            for row in ((edit, answer[:-1]), (edit, (*answer, None)), (("undo", *edit), answer), (edit[:-1], answer),
                        ((edit[0], "no", *edit[2:]), answer), (answer, edit), (edit, answer, answer)):
                self.wrong(PAIRS, [*before, row, *behind], at)
        left_out = [first_wrong(PAIRS, journal[:at] + journal[at + 1:]) for at in range(6)]
        # Targets of "left" do not matter when it is filled in later, nor when "items" are, which are dropped.
        self.assertEqual(left_out, [None, 1, 2, None, 4, None])
        doubled = [first_wrong(PAIRS, journal[:at + 1] + journal[at:]) for at in range(6)]
        # What has been done may be done again, but not dropped or added.
        self.assertEqual(doubled, [None, None, None, None, 5, 6])
        self.wrong(PAIRS, [journal[1], journal[0], *journal[2:]], 1)
        self.wrong(PAIRS, [*journal[:3], journal[4], journal[3], journal[5]], 4)
        self.wrong(PAIRS, [journal[4], *journal[:4], journal[5]], 0)


if __name__ == "__main__":
    unittest.main()
