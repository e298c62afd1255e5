"""The desk and its answers."""

import random
import unittest

from halfbuilt.depth import calm, settled
from halfbuilt.desk import Desk, answers
from halfbuilt.editing import Editor
from halfbuilt.errors import BadText, BuildError
from halfbuilt.every import decided
from halfbuilt.repairs import repairs
from halfbuilt.schemas import Schema
from halfbuilt.texts import schema_text
from tests import reference
from tests.samples import CELLS, ODD_VALUES, PAIRS, ROWS

ODD = Schema([("box", (("items", "later", "set", ("pair",)),), "own"),
              ("pair", (("back", "later", "one", ("box",)), ("tag", "later", "one", ("",))), ("tag",))])
RING = Schema([("a", (("y", "first", "row", ("b",)), ("x", "first", "row", ("b",))), "own"),
               ("b", (("z", "first", "row", ("a",)), ("x", "later", "one", ("b",))), ("x",))])
QUESTIONS = ["good", "calm", "repairs", "grounded", "text"]


class DeskTest(unittest.TestCase):
    def check(self, schema, row, answer, behind=None):
        """A new desk answers to a row; behind it the schema is as before, if nothing else is told."""
        for wanted in (Desk(schema), Desk(schema=schema)):
            found = wanted.say(row)
            self.assertEqual(found, answer, row)
            self.assertIs(type(found), str)
            self.assertEqual(wanted.say(row="text"), self.text(behind or schema))

    def text(self, schema):
        return ";".join(schema_text(schema).split("\n")[:-1])


class QuestionsTest(DeskTest):
    def test_example(self):
        desk = Desk(ROWS)
        rows = ["good", "repairs", "when t of later", "good", "hello"]
        self.assertEqual([desk.say(row) for row in rows], ["no", "t.of", "good", "yes", "unknown"])

    def test_good(self):
        for schema, answer in ((ROWS, "no"), (PAIRS, "yes"), (CELLS, "yes"), (RING, "no"), (ODD, "yes")):
            self.check(schema, "good", answer)

    def test_calm(self):
        for schema, answer in ((ROWS, "bad"), (RING, "bad"), (PAIRS, "yes"), (ODD, "no"), (settled(ODD), "yes")):
            self.check(schema, "calm", answer)

    def test_repairs(self):
        for schema, answer in ((PAIRS, "-"), (ROWS, "t.of"), (RING, "b.z, a.x a.y")):
            self.check(schema, "repairs", answer)

    def test_grounded(self):
        for schema, answer in ((PAIRS, "box pair"), (RING, "a"), (CELLS, "cell"),
                               (Schema([("a", (("x", "later", "one", ("a",)),), ("x",))]), "none")):
            self.check(schema, "grounded", answer)

    def test_text(self):
        self.check(CELLS, "text", "class cell own;  value later one #")
        self.check(PAIRS, "text", "class box own;  items later set # pair;class pair reads left tag;"
                                  "  left first one # box;  tag later one #")
        self.check(Schema([("a", (), ())]), "text", "class a reads")

    def test_at_random(self):
        rng = random.Random(9)
        for _ in range(60):
            schema = reference.some_schema(rng, classes=3, likely=0.4)
            desk = Desk(schema)
            self.assertEqual(desk.say("good"), {"good": "yes", "bad": "no"}[decided(schema)[0]])
            self.assertEqual(desk.say("calm"), {"calm": "yes", "early": "no", "bad": "bad"}[calm(schema)[0]])
            sets = [" ".join(".".join(pair) for pair in pairs) or "-" for pairs in repairs(schema)]
            self.assertEqual(desk.say("repairs"), ", ".join(sets))
            self.assertEqual(desk.say("text"), self.text(schema))


class EditsTest(DeskTest):
    # Rows for ODD, and the edits that they tell.
    ROWS = [
        ("when pair back first", ("when", "pair", "back", "first")), ("when box items later", ("when", "box", "items",
                                                                                               "later")),
        ("reads pair back tag", ("reads", "pair", ("back", "tag"))), ("reads pair", ("reads", "pair", ())),
        ("reads box items", ("reads", "box", ("items",))), ("own pair", ("reads", "pair", "own")),
        ("own box", ("reads", "box", "own")), ("move pair tag 0", ("move", "pair", "tag", 0)),
        ("move pair back 1", ("move", "pair", "back", 1)), ("move box items 0", ("move", "box", "items", 0)),
        ("drop pair back", ("drop", "pair", "back")), ("drop box items", ("drop", "box", "items")),
    ]
    # Rows for ODD that are refused.
    ERRORS = [
        ("undo", "badedit"), ("when pair none first", "badedit"), ("when none tag first", "badedit"),
        ("reads none tag", "badedit"), ("reads none", "badedit"), ("own none", "badedit"),
        ("drop pair none", "badedit"),
        ("drop none tag", "badedit"), ("move none tag 0", "badedit"), ("move pair none 0", "badedit"),
        ("move pair tag 2", "badedit"), ("move pair tag 999999", "badedit"), ("move box items 1", "badedit"),
        ("drop pair tag", "badschema"), ("reads pair items", "badschema"), ("reads pair tag back", "badschema"),
        ("reads pair tag tag", "badschema"), ("reads box tag", "badschema"),
    ]

    def test_edits(self):
        for row, edit in self.ROWS:
            editor = Editor(ODD)
            self.check(ODD, row, editor.do(edit), editor.schema)
            self.check(ODD, row, decided(editor.schema)[0], editor.schema)

    def test_good_and_bad(self):
        desk = Desk(ROWS)
        rows = ["own t", "when t of later", "when t of first", "undo", "good", "undo", "good", "undo", "undo",
                "drop t of"]
        self.assertEqual([desk.say(row) for row in rows],
                         ["bad", "good", "bad", "good", "yes", "bad", "no", "bad", "error badedit", "good"])
        self.assertEqual(desk.say("text"), "class t own")

    def test_slots_as_they_stand(self):
        desk = Desk(ODD)
        self.assertEqual(desk.say("reads pair back tag"), "good")
        self.assertEqual(desk.say("reads pair tag back"), "error badschema")
        self.assertEqual(desk.say("reads pair"), "good")
        self.assertEqual(desk.say("text"), "class box own;  items later set pair;class pair reads;"
                                           "  back later one box;  tag later one #")

    def test_errors(self):
        for row, word in self.ERRORS:
            self.check(ODD, row, f"error {word}")

    def test_the_desk_is_as_before_after_an_error(self):
        desk = Desk(ODD)
        self.assertEqual(desk.say("drop pair back"), "good")
        before = desk.say("text")
        for row, word in self.ERRORS:
            if row != "undo":
                self.assertEqual(desk.say(row), f"error {word}")
                self.assertEqual(desk.say("text"), before)
        self.assertEqual(desk.say("undo"), "good")
        self.assertEqual(desk.say("text"), self.text(ODD))
        self.assertEqual(desk.say("undo"), "error badedit")

    def test_names_are_judged_before_words(self):
        schema = Schema([("own", (("own", "later", "row", ("own",)), ("reads", "first", "row", ("own",))), "own")])
        desk = Desk(schema)
        self.assertEqual(desk.say("reads own own"), "bad")
        self.assertEqual(desk.say("own own"), "bad")
        self.assertEqual(desk.say("when own reads later"), "good")
        self.assertEqual(desk.say("move own reads 0"), "good")
        self.assertEqual(desk.say("drop own own"), "good")
        self.assertEqual(desk.say("text"), "class own own;  reads later row own")


class UnknownTest(DeskTest):
    def unknown(self, row):
        self.check(ODD, row, "unknown")

    def test_blanks(self):
        for row in [*QUESTIONS, "undo", *[row for row, _ in [*EditsTest.ROWS, *EditsTest.ERRORS]]]:
            self.unknown(row + " ")
            self.unknown(" " + row)
            self.unknown(row + "\n")
            if " " in row:
                self.unknown(row.replace(" ", "  "))
                self.unknown(row.replace(" ", "  ", 1))
                self.unknown(row.replace(" ", "\t"))
            self.unknown(row.upper())
            self.unknown(row.capitalize())

    def test_other_rows(self):
        for row in ("", " ", "  ", "hello", "goods", "good yes", "calm box", "repairs pair", "grounded pair",
                    "text box", "undo 1", "undo undo", "good good", "good;calm", "bad", "-"):
            self.unknown(row)

    def test_when(self):
        for row in ("when", "when pair", "when pair back", "when pair back first later", "when pair back never",
                    "when pair back First", "when pair back firsts", "when Pair back first", "when pair Back first",
                    "when pairing back first", "when pair backside first", "when pair back, first",
                    "when p1 back first", "when none none none", "when pair back 0"):
            self.unknown(row)

    def test_reads_and_own(self):
        for row in ("reads", "reads Pair", "reads pair Back", "reads pairing back", "reads pair toolong",
                    "reads pair #", "reads pair back,tag", "reads pair back tag 1", "own", "own Pair", "own pairing",
                    "own pair back", "own pair own", "own 1", "reads 1"):
            self.unknown(row)

    def test_move_and_drop(self):
        for row in ("move", "move pair", "move pair tag", "move pair tag 0 0", "move pair tag tag", "move Pair tag 0",
                    "move pair Tag 0", "move pairing tag 0", "move pair toolong 0", "move pair 0 tag", "drop",
                    "drop pair", "drop pair tag back", "drop pair Tag", "drop Pair tag", "drop pair toolong",
                    "drop pair 0", "drop pair tag 0"):
            self.unknown(row)

    def test_indexes(self):
        for index in ("00", "01", "000000", "-0", "-1", "+0", "+1", "1000000", "0000001", "0x0", "1.0", "1e0", "0_0",
                      "", "-", "first"):
            self.unknown(f"move pair tag {index}")
        for index in ("2", "10", "999999", "100000"):
            self.check(ODD, f"move pair tag {index}", "error badedit")
            self.check(ODD, f"move none tag {index}", "error badedit")
        self.unknown("move none tag 01")

    def test_add_and_targets_are_not_told(self):
        for row in ("targets pair tag #", "targets pair tag box", "add pair 0 new later row #", "add pair 0", "redo"):
            self.unknown(row)

    def test_what_is_no_string(self):
        for value in [*ODD_VALUES, ["good"], ("good",), ("undo",), {"good": 1}]:
            if not isinstance(value, str):
                self.unknown(value)


class AnswersTest(unittest.TestCase):
    def test_lines(self):
        text = "good\nrepairs\nwhen t of later\n\nundo\nundo\ngood "
        wanted = ["no", "t.of", "good", "unknown", "bad", "error badedit", "unknown"]
        self.assertEqual(answers(ROWS, text), wanted)
        self.assertEqual(answers(text=text + "\n", schema=ROWS), wanted)
        self.assertIs(type(answers(ROWS, text)), list)

    def test_the_last_newline(self):
        for text, wanted in (("", []), ("good", ["no"]), ("good\n", ["no"]), ("\n", ["unknown"]),
                             ("\n\n", ["unknown", "unknown"]), ("good\n\n", ["no", "unknown"]),
                             ("\ngood", ["unknown", "no"]), (" ", ["unknown"])):
            self.assertEqual(answers(ROWS, text), wanted)

    def test_the_desk_is_new(self):
        for _ in range(2):
            self.assertEqual(answers(ROWS, "good\ndrop t of\ngood\n"), ["no", "good", "yes"])
        answers(ROWS, "good").clear()
        self.assertEqual(answers(ROWS, "good"), ["no"])

    def test_no_strings(self):
        for value in [*ODD_VALUES, ["good"], ("good\n",), Desk(ROWS)]:
            if not isinstance(value, str):
                with self.assertRaises(BadText) as caught:
                    answers(ROWS, value)
                self.assertEqual(caught.exception.row, 0)

    def test_every_row_of_a_desk(self):
        rng = random.Random(10)
        for _ in range(40):
            schema = reference.some_schema(rng, classes=3)
            editor, rows, wanted = Editor(schema), [], []
            for _ in range(15):
                name, slot = rng.choice(schema.names), rng.choice("wxyz")
                row, edit = rng.choice([
                    (f"when {name} {slot} later", ("when", name, slot, "later")), ("undo", ("undo",)),
                    (f"reads {name} {slot}", ("reads", name, (slot,))), (f"own {name}", ("reads", name, "own")),
                    (f"move {name} {slot} 1", ("move", name, slot, 1)), (f"drop {name} {slot}", ("drop", name, slot))])
                rows.append(row)
                try:
                    wanted.append(editor.do(edit))
                except BuildError as error:
                    wanted.append("error " + type(error).__name__.lower())
            self.assertEqual(answers(schema, "\n".join(rows)), wanted)


if __name__ == "__main__":
    unittest.main()
