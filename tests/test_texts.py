"""Texts of schemas and graphs, and reading them."""

import random
import unittest

from halfbuilt.errors import BadGraph, BadSchema, BadText
from halfbuilt.graphs import Graph
from halfbuilt.schemas import Schema
from halfbuilt.texts import graph_text, read_graph, read_schema, schema_text
from tests import reference
from tests.samples import CELLS, ODD_VALUES, PAIRS, ROWS

PAIRS_TEXT = """class box own
  items later set # pair
class pair reads left tag
  left first one # box
  tag later one #
"""
ALL = ("", "a", "own")
FORMS = Schema([
    ("a", (("one", "later", "one", ALL), ("row", "first", "row", ALL), ("set", "later", "set", ALL)), ()),
    ("empty", (), "own"),
    ("own", (("own", "first", "row", ("own",)), ("class", "first", "set", ("a",))), ("own",)),
])
FORMS_TEXT = """class a reads
  one later one # a own
  row first row # a own
  set later set # a own
class empty own
class own reads own
  own first row own
  class first set a
"""
OBJECTS = {"p": ("a", ("p", (-999, "q", 0, "q"), (-5, 7, "p", "q"))), "q": ("own", ((), ())), "r": ("empty", ()),
           "zzzzzz": ("a", (12, (), ()))}
GRAPH_TEXT = """p a
  one p
  row -999 q 0 q
  set -5 7 p q
q own
  own
  class
r empty
zzzzzz a
  one 12
  row
  set
"""


class TextsTest(unittest.TestCase):
    def bad_text(self, read, row):
        with self.assertRaises(BadText) as caught:
            read()
        self.assertEqual(caught.exception.row, row)
        self.assertIs(type(caught.exception.row), int)

    def bad(self, error, name, read):
        with self.assertRaises(error) as caught:
            read()
        self.assertEqual(caught.exception.name, name)


class SchemaTextTest(TextsTest):
    def wrong(self, text, row):
        self.bad_text(lambda: read_schema(text), row)
        self.bad_text(lambda: read_schema(text=text), row)

    def wrong_line(self, line, row, text=PAIRS_TEXT):
        """A line in the place of another one, with right lines and with wrong ones behind it."""
        lines = text.split("\n")
        self.wrong("\n".join([*lines[:row], line, *lines[row + 1:]]), row)
        self.wrong("\n".join([*lines[:row], line, "wrong", ""]), row)
        self.wrong("\n".join([*lines[:row], line]), row)

    def test_example(self):
        self.assertEqual(schema_text(CELLS), "class cell own\n  value later one #\n")

    def test_texts(self):
        for schema, text in ((PAIRS, PAIRS_TEXT), (FORMS, FORMS_TEXT), (ROWS, "class t own\n  of first row t\n"),
                             (Schema([("a", (), "own")]), "class a own\n"),
                             (Schema([("a", (), ())]), "class a reads\n")):
            self.assertEqual(schema_text(schema), text)
            self.assertEqual(schema_text(schema=schema), text)
            self.assertEqual(read_schema(text), schema)
            self.assertEqual(read_schema(text=text), schema)
            self.assertIs(type(read_schema(text)), Schema)

    def test_own_and_reading_nothing_are_different(self):
        self.assertEqual(read_schema("class a reads\n").classes, (("a", (), ()),))
        self.assertEqual(read_schema("class a own\n").classes, (("a", (), "own"),))

    def test_written_and_read_again(self):
        rng = random.Random(10)
        for _ in range(300):
            schema = reference.some_schema(rng, classes=4, most_slots=4)
            self.assertEqual(read_schema(schema_text(schema)), schema)

    def test_no_strings(self):
        for value in [*ODD_VALUES, [PAIRS_TEXT], (PAIRS_TEXT,), PAIRS]:
            if not isinstance(value, str):
                self.wrong(value, 0)

    def test_the_empty_string_and_empty_lines(self):
        self.wrong("", 0)
        self.wrong("\n", 0)
        self.wrong("\n" + PAIRS_TEXT, 0)
        self.wrong(PAIRS_TEXT + "\n", 5)
        self.wrong(PAIRS_TEXT + "\n\n", 5)
        self.wrong(PAIRS_TEXT.replace("class pair", "\nclass pair"), 2)

    def test_the_last_newline_is_missing(self):
        self.wrong(PAIRS_TEXT[:-1], 5)
        self.wrong("class a own", 1)
        self.wrong("class a own\n  x later one #", 2)
        # A wrong line comes first; and a schema is judged after all lines.
        self.wrong("class a own\n  x later one", 1)
        self.wrong("class b own\nclass a own", 2)

    def test_lines_of_classes(self):
        for line in ("class", "class pair", "class own", "class pair Own", "class pair owns", "class pair own left",
                     "class pair own own", "class  own", "class pair  own", "class pair own ", " class pair own",
                     "Class pair own", "classes pair own", "class Pair own", "class pairing own", "class p1 own",
                     "class # own", "class pair read left", "class pair reads ", "class pair reads left ",
                     "class pair reads  left", "class pair reads left  tag", "class pair reads #",
                     "class pair reads Left", "class pair reads toolong", "class pair reads left,tag", "pair own",
                     "class pair left tag", "class\tpair own", "#", "x", "class class", "class reads left"):
            self.wrong_line(line, 2)
            self.wrong_line(line, 0)

    def test_lines_of_slots(self):
        for line in ("  left", "  left first", "  left first one", "  left first one ", "  left first one  #",
                     "  left first one # ", "  left  first one #", " left first one #", "left first one #",
                     "   left first one #", "  Left first one #", "  lefties first one #", "  # first one #",
                     "  left now one #", "  left First one #", "  left  one #", "  left first two #",
                     "  left first ones #", "  left one first #", "  left first one ##", "  left first one Box",
                     "  left first one # boxes1", "  left first one longbox", "  left first one -",
                     "  left first one 0", "  left first one #,box", "\tleft first one #", "  ", "   ", "    ",
                     "  left first one # #box",
                     "in it left first one #", " x left first one #", "x  left first one #"):
            self.wrong_line(line, 3)
            self.wrong_line(line, 4)
            self.wrong_line(line, 1)

    def test_slots_without_a_class(self):
        self.wrong("  left first one #\n", 0)
        self.wrong("  left first one #\n" + PAIRS_TEXT, 0)

    def test_all_else_is_judged_by_schema(self):
        def bad(name, text):
            self.bad(BadSchema, name, lambda: read_schema(text))

        bad(None, "class b own\nclass a own\n")
        bad(None, "class a own\nclass a own\n")
        bad(None, "".join(f"class {name} own\n" for name in "abcde"))
        bad("a", "class a reads x\n")
        bad("a", "class a reads y x\n  x later one #\n  y later one #\n")
        bad("b", "class a own\nclass b reads x x\n  x later one #\n")
        bad("a", "class a reads own\n  x later one #\n")
        bad("a", "class a own\n  x later one #\n  x later one #\n")
        bad("a", "class a own\n" + "".join(f"  {name} later one #\n" for name in "vwxyz"))
        bad("b", "class a own\nclass b own\n  x later one c\n")
        bad("a", "class a own\n  x later one a #\n")
        bad("a", "class a own\n  x later one # #\n")
        bad("a", "class a own\n  x later one a a\n")


class GraphTextTest(TextsTest):
    def wrong(self, text, row, schema=FORMS):
        self.bad_text(lambda: read_graph(schema, text), row)
        self.bad_text(lambda: read_graph(text=text, schema=schema), row)

    def wrong_line(self, line, row):
        lines = GRAPH_TEXT.split("\n")
        self.wrong("\n".join([*lines[:row], line, *lines[row + 1:]]), row)
        self.wrong("\n".join([*lines[:row], line, "wrong", ""]), row)
        self.wrong("\n".join([*lines[:row], line]), row)

    def test_texts(self):
        graph = Graph(FORMS, OBJECTS)
        self.assertEqual(graph_text(graph), GRAPH_TEXT)
        self.assertEqual(graph_text(graph=graph), GRAPH_TEXT)
        self.assertEqual(read_graph(FORMS, GRAPH_TEXT), graph)
        self.assertEqual(read_graph(text=GRAPH_TEXT, schema=FORMS), graph)
        self.assertIs(type(read_graph(FORMS, GRAPH_TEXT)), Graph)
        self.assertEqual(graph_text(Graph(CELLS, {"b": ("cell", (1,)), "a": ("cell", (-1,))})),
                         "a cell\n  value -1\nb cell\n  value 1\n")

    def test_the_graph_without_objects(self):
        for schema in (FORMS, CELLS):
            self.assertEqual(graph_text(Graph(schema, {})), "")
            self.assertEqual(read_graph(schema, ""), Graph(schema, {}))

    def test_written_and_read_again(self):
        rng = random.Random(20)
        many = 0
        for _ in range(200):
            schema = reference.some_schema(rng, classes=3, most_slots=4)
            for graph in reference.some_graphs(rng, schema, (1, 3, 6)):
                self.assertEqual(read_graph(schema, graph_text(graph)), graph)
                many += 1
        self.assertGreater(many, 200)

    def test_the_largest_graphs(self):
        slots = tuple((name, "later", form, ("", "a")) for name, form in zip("wxyz", ("row", "set") * 2))
        schema = Schema([("a", slots, "own")])
        names = ["o" + letter for letter in "abcdefghijklmnopqrstuvwx"]
        objects = {name: ("a", ((name, -999, 999, "ox"), (-999, 999, "oa", "ob")) * 2) for name in names}
        graph = Graph(schema, objects)
        self.assertEqual(read_graph(schema, graph_text(graph)), graph)
        more = graph_text(graph) + "p a\n  w\n  x\n  y\n  z\n"
        self.bad(BadGraph, None, lambda: read_graph(schema, more))

    def test_no_strings(self):
        for value in [*ODD_VALUES, [GRAPH_TEXT], (GRAPH_TEXT,), Graph(FORMS, {})]:
            if not isinstance(value, str):
                self.wrong(value, 0)

    def test_empty_lines(self):
        self.wrong("\n", 0)
        self.wrong("\n" + GRAPH_TEXT, 0)
        self.wrong(GRAPH_TEXT + "\n", 12)
        self.wrong(GRAPH_TEXT.replace("q own", "\nq own"), 4)
        self.wrong(GRAPH_TEXT.replace("  row", "\n  row"), 2)

    def test_the_last_newline_is_missing(self):
        self.wrong(GRAPH_TEXT[:-1], 12)
        self.wrong("r empty", 1)
        self.wrong("r empt", 0)
        self.wrong("r empty\nq empty", 1)
        # A graph is judged after all lines.
        self.wrong("p own\n  own p z\n  class", 3)

    def test_slots_that_are_missing(self):
        lines = GRAPH_TEXT.split("\n")[:-1]
        for many in range(1, 12):
            text = "\n".join(lines[:many])
            self.wrong(text, many)
            if many in (7, 8):
                self.assertEqual(len(read_graph(FORMS, text + "\n").names), many - 5)
            elif many == 4:
                self.bad(BadGraph, "p", lambda text=text: read_graph(FORMS, text + "\n"))
            else:
                self.wrong(text + "\n", many)
        # In front of other objects they are missing at once.
        for row in (1, 2, 3):
            self.wrong("\n".join([*lines[:row], "q own", "  own", "  class", ""]), row)
        self.wrong("q own\n  own\nr empty\n", 2)

    def test_slots_in_another_order_and_other_slots(self):
        self.wrong("q own\n  class\n  own\n", 1)
        self.wrong("q own\n  own\n  own\n", 2)
        self.wrong("q own\n  own\n  class\n  class\n", 3)
        self.wrong("q own\n  own\n  class\n  set\n", 3)
        self.wrong("r empty\n  own\n", 1)
        self.wrong("  own\n", 0)
        self.wrong("  own\n" + GRAPH_TEXT, 0)

    def test_lines_of_objects(self):
        for line in ("q", "q ", "q  own", " q own", "q own ", "q own own", "q none", "q #", "Q own", "q1 own", "1 own",
                     "qqqqqqq own", "q Own", "q classe", "own", " ", "q\town", "q a1", "# own"):
            self.wrong_line(line, 4)
            self.wrong_line(line, 0)

    def test_names_ascend(self):
        for name in ("p", "a", "o", "oz"):
            self.wrong_line(f"{name} own", 4)
        self.wrong("q empty\nq empty\n", 1)
        self.wrong("b empty\na empty\n", 1)
        self.assertEqual(read_graph(FORMS, "a empty\naa empty\nb empty\n").names, ("a", "aa", "b"))

    def test_lines_of_slots(self):
        for line in (" row", "row", "   row", "  Row", "  rows", "  row ", "  row  1", "  row 1  2", "  row 1 ", "  ",
                     "  row Q", "  row #", "  row q1", "  row 1q", "  row 1.0", "  row 1,2", "  row qqqqqqq", "\trow",
                     "  row 1 2 3 4 5 q?"):
            self.wrong_line(line, 2)

    def test_single_words(self):
        for line in ("  one", "  one ", "  one 1 2", "  one p p", "  one 1 "):
            self.wrong_line(line, 1)
            self.wrong_line(line, 9)

    def test_integers(self):
        for word in ("00", "01", "-0", "-00", "-01", "+1", "+0", "--1", "-", "- 1", "1-", "1000000", "0000000",
                     "-1000000", "1e2", "1_0", "0x1", " 1", "1 "):
            self.wrong_line(f"  one {word}", 1)
            self.wrong_line(f"  row 1 {word} 2", 2)
            self.wrong_line(f"  set {word}", 3)
        for worth in (-999, -100, -10, -1, 0, 1, 9, 10, 100, 999):
            self.assertEqual(read_graph(CELLS, f"p cell\n  value {worth}\n").objects, {"p": ("cell", (worth,))})
        # With up to six digits a word is an integer, and then it is judged by Graph.
        for worth in (1000, 99999, 100000, 999999, -1000, -999999):
            self.bad(BadGraph, "p", lambda text=f"p cell\n  value {worth}\n": read_graph(CELLS, text))

    def test_all_else_is_judged_by_graph(self):
        def bad(name, text, schema=FORMS):
            self.bad(BadGraph, name, lambda: read_graph(schema, text))

        bad("q", "q own\n  own z\n  class\n")
        bad("q", "q own\n  own 1\n  class\n")
        bad("q", "q own\n  own r\n  class\nr empty\n")
        bad("q", "q own\n  own q q q q q\n  class\n")
        bad("p", "p a\n  one 1\n  row\n  set 2 1\n")
        bad("p", "p a\n  one 1\n  row\n  set 1 1\n")
        bad("p", "p a\n  one 1\n  row\n  set p 1\n")
        bad("p", "p a\n  one 1\n  row\n  set 1 2 3 4 5\n")
        bad("x", "p cell\n  value x\nx cell\n  value 1000\n", CELLS)
        bad(None, "".join(f"o{letter} empty\n" for letter in "abcdefghijklmnopqrstuvwxy"))


if __name__ == "__main__":
    unittest.main()
