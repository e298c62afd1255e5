"""Editors, their edits, logs and twins, and graphs that are carried through edits."""

import copy
import random
import unittest

from halfbuilt.editing import Editor, carried
from halfbuilt.errors import BadEdit, BadGraph, BadSchema, NoName
from halfbuilt.every import decided
from halfbuilt.graphs import Graph
from halfbuilt.schemas import Schema
from tests import reference
from tests.samples import CELLS, ODD_VALUES, PAIRS, ROWS, deep

LATER_ROWS = Schema([("t", (("of", "later", "row", ("t",)),), "own")])
X = ("x", "first", "row", ("", "a"))
Y = ("y", "later", "one", ("", "b"))
Z = ("z", "later", "set", ("", "a", "b"))
MIXED = Schema([("a", (X, Y, Z), ("x", "y")), ("b", (("w", "later", "one", ("",)),), "own")])
NEW = ("new", "later", "row", ("b",))
# Values that are no tuple of a word of the edits and as many parts.
NO_EDITS = [*ODD_VALUES, "undo", ["undo"], ("undo", 0), ("undo", ()), ("Undo",), ("redo",), ("when",), ("when", "a"),
            ("when", "a", "x"), ("when", "a", "x", "later", 0), ["when", "a", "x", "later"], ("reads", "a"),
            ("reads", "a", (), ()), ("targets", "a", "x"), ("move", "a", "x"), ("move", "a", "x", 0, 0), ("drop", "a"),
            ("drop", "a", "x", 0), ("add", "a", 0), ("add", "a", 0, NEW, 0), ("drops", "a", "x"), (True,),
            (["undo"],), ({"undo": 1},), (("undo",),), {"undo": ()}, deep("undo")]
# Edits of MIXED for classes, slots and indexes that do not exist.
NOTHING_THERE = [
    ("when", "c", "x", "later"), ("when", "a", "w", "later"), ("when", "a", "a", "later"), ("when", "", "x", "later"),
    ("reads", "c", "own"), ("reads", "A", ()), ("targets", "c", "x", ("",)), ("targets", "b", "x", ("",)),
    ("move", "c", "x", 0), ("move", "a", "w", 0), ("move", "a", "x", 3), ("move", "a", "x", -1), ("move", "b", "w", 1),
    ("move", "a", "x", 10 ** 99), ("add", "c", 0, NEW), ("add", "a", 4, NEW), ("add", "a", -1, NEW),
    ("add", "b", 2, NEW), ("drop", "c", "x"), ("drop", "a", "w"), ("drop", "b", "z"),
]
# Edits of MIXED that make no schema of it, and the class that is none then.
NO_SCHEMAS = [
    (("when", "a", "x", "never"), "a"), (("when", "b", "w", "First"), "b"), (("when", "a", "z", None), "a"),
    (("reads", "a", ("w",)), "a"), (("reads", "a", ("y", "x")), "a"), (("reads", "a", ("x", "x")), "a"),
    (("reads", "b", "none"), "b"), (("reads", "b", ["w"]), "b"), (("reads", "a", "x"), "a"),
    (("targets", "a", "x", ()), "a"), (("targets", "a", "x", ("c",)), "a"), (("targets", "b", "w", ("b", "a")), "b"),
    (("targets", "b", "w", ["a"]), "b"), (("targets", "b", "w", "a"), "b"), (("targets", "b", "w", ("", "")), "b"),
    (("add", "a", 0, ("x", "later", "row", ("b",))), "a"), (("add", "a", 3, ("n", "later", "row", ())), "a"),
    (("add", "b", 1, ["n", "later", "row", ("b",)]), "b"), (("add", "b", 0, ("n", "later", "row", ("c",))), "b"),
    (("add", "b", 0, ("longname", "later", "row", ("b",))), "b"), (("add", "b", 0, ("n", "later", "row")), "b"),
    (("drop", "a", "x"), "a"), (("drop", "a", "y"), "a"),
]
# Edits of MIXED, and the slots and hash of the class behind them.
DONE = [
    (("when", "a", "x", "later"), "a", (("x", "later", *X[2:]), Y, Z), ("x", "y")),
    (("when", "a", "z", "first"), "a", (X, Y, ("z", "first", *Z[2:])), ("x", "y")),
    (("when", "a", "y", "later"), "a", (X, Y, Z), ("x", "y")),
    (("reads", "a", "own"), "a", (X, Y, Z), "own"),
    (("reads", "a", ()), "a", (X, Y, Z), ()),
    (("reads", "a", ("x", "y", "z")), "a", (X, Y, Z), ("x", "y", "z")),
    (("reads", "b", ("w",)), "b", (("w", "later", "one", ("",)),), ("w",)),
    (("targets", "a", "y", ("a",)), "a", (X, (*Y[:3], ("a",)), Z), ("x", "y")),
    (("targets", "b", "w", ("", "a", "b")), "b", (("w", "later", "one", ("", "a", "b")),), "own"),
    (("move", "a", "x", 0), "a", (X, Y, Z), ("x", "y")),
    (("move", "a", "x", 1), "a", (Y, X, Z), ("x", "y")),
    (("move", "a", "x", 2), "a", (Y, Z, X), ("x", "y")),
    (("move", "a", "z", 0), "a", (Z, X, Y), ("x", "y")),
    (("move", "a", "y", 2), "a", (X, Z, Y), ("x", "y")),
    (("move", "b", "w", 0), "b", (("w", "later", "one", ("",)),), "own"),
    (("add", "a", 0, NEW), "a", (NEW, X, Y, Z), ("x", "y")),
    (("add", "a", 2, NEW), "a", (X, Y, NEW, Z), ("x", "y")),
    (("add", "a", 3, NEW), "a", (X, Y, Z, NEW), ("x", "y")),
    (("add", "b", 1, NEW), "b", (("w", "later", "one", ("",)), NEW), "own"),
    (("drop", "a", "z"), "a", (X, Y), ("x", "y")),
    (("drop", "b", "w"), "b", (), "own"),
]


def with_class(schema, name, slots, read):
    return Schema([(name, slots, read) if row[0] == name else row for row in schema.classes])


class EditorTest(unittest.TestCase):
    def refused(self, error, attribute, editor, ask, *arguments):
        """Nothing is changed by a call that raises an error."""
        before = editor.schema, editor.log(), editor.twin(), copy.deepcopy(arguments)
        with self.assertRaises(error) as caught:
            ask(*arguments)
        found = caught.exception.name if error in (BadSchema, BadGraph) else caught.exception.at
        self.assertEqual(found, attribute, arguments)
        self.assertIs(type(found), type(attribute))
        self.assertEqual((editor.schema, editor.log(), editor, arguments), before)


class DoTest(EditorTest):
    def test_example(self):
        editor = Editor(ROWS)
        self.assertEqual(editor.do(("when", "t", "of", "later")), "good")
        self.assertEqual(editor.schema, LATER_ROWS)
        self.assertEqual(editor.do(("undo",)), "bad")
        self.assertEqual(editor.log(), [])
        self.assertEqual(editor.schema, ROWS)

    def test_new_editors(self):
        editor = Editor(schema=MIXED)
        self.assertEqual((editor.schema, editor.log()), (MIXED, []))

    def test_every_kind_of_edit(self):
        for edit, name, slots, read in DONE:
            editor = Editor(MIXED)
            wanted = with_class(MIXED, name, slots, read)
            for _ in range(2):
                self.assertEqual(editor.do(edit), decided(wanted)[0])
                self.assertEqual((editor.schema, editor.log()), (wanted, [edit]))
                self.assertEqual(editor.do(edit=("undo",)), decided(MIXED)[0])
                self.assertEqual((editor.schema, editor.log()), (MIXED, []))
        self.assertEqual({edit[0] for edit, *_ in DONE}, {"when", "reads", "targets", "move", "add", "drop"})

    def test_good_and_bad(self):
        editor = Editor(CELLS)
        self.assertEqual(editor.do(("add", "cell", 1, ("next", "first", "row", ("cell",)))), "bad")
        self.assertEqual(editor.do(("when", "cell", "next", "later")), "good")
        self.assertEqual(editor.do(("targets", "cell", "value", ("", "cell"))), "good")
        self.assertEqual(editor.do(("when", "cell", "value", "first")), "bad")
        self.assertEqual(editor.do(("targets", "cell", "value", ("",))), "good")
        self.assertEqual(editor.do(("when", "cell", "next", "first")), "bad")
        self.assertEqual(editor.do(("drop", "cell", "next")), "good")

    def test_undo_one_after_another(self):
        editor, states = Editor(PAIRS), [(PAIRS, [])]
        for edit in (("when", "pair", "left", "later"), ("move", "pair", "tag", 0), ("reads", "pair", ("tag",)),
                     ("drop", "pair", "left"), ("add", "box", 0, ("new", "first", "one", ("box",)))):
            editor.do(edit)
            states.append((editor.schema, editor.log()))
        while len(states) > 1:
            states.pop()
            self.assertEqual(editor.do(("undo",)), decided(states[-1][0])[0])
            self.assertEqual((editor.schema, editor.log()), states[-1])
        self.refused(BadEdit, 0, editor, editor.do, ("undo",))

    def test_an_undo_is_not_undone(self):
        editor = Editor(ROWS)
        for edit in (("when", "t", "of", "later"), ("reads", "t", ("of",)), ("undo",)):
            editor.do(edit)
        self.assertEqual(editor.log(), [("when", "t", "of", "later")])
        editor.do(("undo",))
        self.assertEqual(editor.schema, ROWS)
        self.refused(BadEdit, 0, editor, editor.do, ("undo",))

    def editors(self):
        """An editor without edits, and one with some, both of MIXED."""
        edited = Editor(with_class(MIXED, "b", (), "own"))
        edited.do(("add", "b", 0, ("w", "later", "one", ("",))))
        self.assertEqual(edited.schema, MIXED)
        return Editor(MIXED), edited

    def test_no_edits(self):
        for editor in self.editors():
            for value in NO_EDITS:
                self.refused(BadEdit, 0, editor, editor.do, value)

    def test_what_does_not_exist(self):
        for editor in self.editors():
            for edit in NOTHING_THERE:
                self.refused(BadEdit, 0, editor, editor.do, edit)

    def test_any_value_as_a_class_slot_or_index(self):
        editor = Editor(MIXED)
        for value in ODD_VALUES:
            for edit in (("when", value, "x", "later"), ("when", "a", value, "later"), ("reads", value, "own"),
                         ("targets", value, "x", ("",)), ("targets", "a", value, ("",)), ("move", value, "x", 0),
                         ("move", "a", value, 0), ("add", value, 0, NEW), ("drop", value, "x"), ("drop", "a", value)):
                self.refused(BadEdit, 0, editor, editor.do, edit)
            if not isinstance(value, int) or isinstance(value, bool) or not 0 <= value <= 2:
                self.refused(BadEdit, 0, editor, editor.do, ("move", "a", "x", value))
                self.refused(BadEdit, 0, editor, editor.do, ("add", "a", value, NEW))

    def test_no_schemas(self):
        for editor in self.editors():
            for edit, name in NO_SCHEMAS:
                self.refused(BadSchema, name, editor, editor.do, edit)

    def test_any_value_as_what_a_schema_judges(self):
        editor = Editor(MIXED)
        for value in ODD_VALUES:
            self.refused(BadSchema, "a", editor, editor.do, ("when", "a", "x", value))
            self.refused(BadSchema, "a", editor, editor.do, ("targets", "a", "x", value))
            self.refused(BadSchema, "a", editor, editor.do, ("add", "a", 0, value))
            if value != ():
                self.refused(BadSchema, "a", editor, editor.do, ("reads", "a", value))

    def test_a_fifth_slot(self):
        editor = Editor(MIXED)
        editor.do(("add", "a", 3, NEW))
        for index in range(5):
            self.refused(BadSchema, "a", editor, editor.do, ("add", "a", index, ("more", "later", "row", ("b",))))
        self.refused(BadEdit, 0, editor, editor.do, ("add", "a", 5, ("more", "later", "row", ("b",))))

    def test_slots_that_hashes_do_not_read_any_more_are_dropped(self):
        editor = Editor(MIXED)
        self.refused(BadSchema, "a", editor, editor.do, ("drop", "a", "y"))
        editor.do(("reads", "a", ("x",)))
        editor.do(("drop", "a", "y"))
        self.assertEqual(editor.schema, with_class(MIXED, "a", (X, Z), ("x",)))

    def test_slots_that_are_called_own(self):
        schema = Schema([("a", (("own", "first", "row", ("",)),), ())])
        editor = Editor(schema)
        editor.do(("reads", "a", ("own",)))
        editor.do(("reads", "a", "own"))
        self.assertEqual(editor.schema.classes, (("a", schema.slots("a"), "own"),))

    def test_the_schema_and_the_log_are_copies(self):
        editor = Editor(ROWS)
        editor.do(("when", "t", "of", "later"))
        editor.log().clear()
        self.assertEqual(editor.log(), [("when", "t", "of", "later")])
        self.assertIs(type(editor.log()), list)
        self.assertEqual(ROWS.slots("t")[0][1], "first")


class DoAllTest(EditorTest):
    EDITS = (("when", "a", "x", "later"), ("undo",), ("add", "a", 0, NEW), ("reads", "a", "own"), ("drop", "a", "y"))

    def test_all(self):
        for edits in (list(self.EDITS), self.EDITS):
            editor, other = Editor(MIXED), Editor(MIXED)
            self.assertEqual(editor.do_all(edits), [other.do(edit) for edit in self.EDITS])
            self.assertEqual((editor.schema, editor.log()), (other.schema, list(self.EDITS[2:])))
            self.assertEqual(edits, type(edits)(self.EDITS))

    def test_what_is_returned(self):
        editor = Editor(ROWS)
        edits = [("when", "t", "of", "later"), ("when", "t", "of", "first"), ("undo",), ("undo",)]
        self.assertEqual(editor.do_all(edits=edits), ["good", "bad", "good", "bad"])
        self.assertEqual(editor.do_all([]), [])
        self.assertEqual(editor.do_all(()), [])
        self.assertEqual(editor.log(), [])

    def test_undo_of_what_was_before(self):
        editor = Editor(MIXED)
        editor.do(("drop", "b", "w"))
        editor.do_all([("undo",), ("drop", "a", "z"), ("undo",)])
        self.assertEqual((editor.schema, editor.log()), (MIXED, []))
        editor.do(("drop", "b", "w"))
        self.refused(BadEdit, 0, editor, editor.do_all, [("drop", "a", "z"), ("undo",), ("undo",), ("undo",)])

    def test_no_list(self):
        editor = Editor(MIXED)
        for value in [*ODD_VALUES, "undo", {("undo",): 1}]:
            if not isinstance(value, (list, tuple)):
                self.refused(BadEdit, 0, editor, editor.do_all, value)

    def test_items_that_are_no_edits(self):
        editor = Editor(MIXED)
        editor.do(("drop", "b", "w"))
        for value in NO_EDITS:
            self.refused(BadEdit, 0, editor, editor.do_all, [value])
            self.refused(BadEdit, 1, editor, editor.do_all, [("undo",), value, value])
            self.refused(BadEdit, 5, editor, editor.do_all, (*self.EDITS, value))
            # It comes before the errors of edits in front of it.
            self.refused(BadEdit, 2, editor, editor.do_all, [("drop", "z", "z"), ("reads", "a", 0), value])

    def test_the_first_that_fails(self):
        editor = Editor(MIXED)
        for edit in NOTHING_THERE:
            self.refused(BadEdit, 0, editor, editor.do_all, [("drop", "a", "z"), ("undo",), edit, ("drop", "a", "x")])
        for edit, name in NO_SCHEMAS:
            self.refused(BadSchema, name, editor, editor.do_all, [("reads", "a", ("x", "y")), edit, ("drop", "c", "x")])
            self.refused(BadSchema, name, editor, editor.do_all, (edit,))
        self.refused(BadEdit, 0, editor, editor.do_all, [("drop", "a", "z"), ("drop", "a", "z")])
        self.refused(BadEdit, 0, editor, editor.do_all, [("undo",)])
        self.refused(BadSchema, "b", editor, editor.do_all, [("reads", "b", ("w",)), ("drop", "b", "w")])


class OtherError(Exception):
    pass


class LastError(BaseException):
    pass


class AttemptTest(EditorTest):
    def test_work_that_returns(self):
        editor, given = Editor(ROWS), []

        def work(one):
            given.append(one)
            one.do(("when", "t", "of", "later"))
            return [one.schema]

        self.assertEqual(editor.attempt(work), [LATER_ROWS])
        self.assertEqual((editor.schema, editor.log()), (LATER_ROWS, [("when", "t", "of", "later")]))
        self.assertIs(given[0], editor)
        self.assertEqual(editor.attempt(work=lambda one: one.do(("undo",))), "bad")
        self.assertIsNone(editor.attempt(lambda one: None))
        self.assertEqual(editor.log(), [])

    def test_errors_are_raised_again(self):
        editor = Editor(MIXED)
        editor.do(("drop", "b", "w"))
        before = editor.schema, editor.log()
        for error in (OtherError("x"), LastError(), KeyError("y"), BadEdit(3), BadSchema("z"), NoName(None),
                      StopIteration(), KeyboardInterrupt(), SystemExit(3), GeneratorExit(), ZeroDivisionError()):
            def work(one):
                one.do(("undo",))
                one.do(("drop", "a", "z"))
                one.do_all([("reads", "a", "own"), ("drop", "a", "x")])
                raise error

            with self.assertRaises(type(error)) as caught:
                editor.attempt(work)
            self.assertIs(caught.exception, error)
            self.assertEqual((editor.schema, editor.log()), before)
        editor.do(("undo",))
        self.assertEqual(editor.schema, MIXED)

    def test_errors_of_edits(self):
        editor = Editor(MIXED)

        def work(one):
            one.do(("drop", "a", "z"))
            return one.do(("drop", "a", "x"))

        self.refused(BadSchema, "a", editor, editor.attempt, work)

        def other_work(one):
            one.do(("drop", "a", "z"))
            return one.do_all([("undo",), ("undo",)])

        self.refused(BadEdit, 0, editor, editor.attempt, other_work)

    def test_errors_that_work_catches(self):
        editor = Editor(MIXED)

        def work(one):
            one.do(("drop", "a", "z"))
            try:
                one.do(("drop", "a", "x"))
            except BadSchema as error:
                return error.name
            return None

        self.assertEqual(editor.attempt(work), "a")
        self.assertEqual(editor.log(), [("drop", "a", "z")])

    def test_an_attempt_within_an_attempt(self):
        editor = Editor(MIXED)

        def inner(one):
            one.do(("reads", "a", "own"))
            raise OtherError

        def outer(one):
            one.do(("drop", "a", "z"))
            try:
                one.attempt(inner)
            except OtherError:
                one.do(("drop", "b", "w"))
            return one.log()

        self.assertEqual(editor.attempt(outer), [("drop", "a", "z"), ("drop", "b", "w")])
        self.assertEqual(editor.schema, Schema([("a", (X, Y), ("x", "y")), ("b", (), "own")]))

        def failing(one):
            one.do(("undo",))
            one.attempt(lambda other: other.do(("reads", "a", "own")))
            one.do(("drop", "a", "x"))
            raise OtherError

        with self.assertRaises(OtherError):
            editor.attempt(failing)
        self.assertEqual(editor.log(), [("drop", "a", "z"), ("drop", "b", "w")])

    def test_attempts_on_other_editors(self):
        editor, other = Editor(MIXED), Editor(MIXED)

        def work(_):
            other.do(("drop", "a", "z"))
            raise OtherError

        with self.assertRaises(OtherError):
            editor.attempt(work)
        self.assertEqual(other.log(), [("drop", "a", "z")])

    def test_what_is_no_work(self):
        editor = Editor(MIXED)
        with self.assertRaises(TypeError):
            editor.attempt(None)
        self.assertEqual((editor.schema, editor.log()), (MIXED, []))


class TwinTest(EditorTest):
    def test_twins(self):
        editor = Editor(MIXED)
        editor.do_all([("drop", "a", "z"), ("reads", "a", "own")])
        other = editor.twin()
        self.assertIs(type(other), Editor)
        self.assertIsNot(other, editor)
        self.assertEqual(other, editor)
        self.assertEqual((other.schema, other.log()), (editor.schema, editor.log()))
        other.do(("drop", "a", "x"))
        self.assertNotEqual(other, editor)
        self.assertEqual(editor.log(), [("drop", "a", "z"), ("reads", "a", "own")])
        editor.do_all([("undo",), ("undo",)])
        self.assertEqual(len(other.log()), 3)
        other.do_all([("undo",)] * 3)
        self.assertEqual(other, editor)
        self.assertEqual(other.schema, MIXED)

    def test_equality(self):
        editor, other = Editor(MIXED), Editor(Schema(list(MIXED.classes)))
        self.assertEqual(editor, other)
        self.assertNotEqual(editor, Editor(PAIRS))
        editor.do(("when", "a", "y", "later"))
        self.assertEqual(editor.schema, other.schema)
        self.assertNotEqual(editor, other)
        other.do(("move", "a", "x", 0))
        self.assertNotEqual(editor, other)
        other.do_all([("undo",), ("when", "a", "y", "later")])
        self.assertEqual(editor, other)

    def test_only_schemas_and_logs_matter(self):
        # The first schemas differ.
        editor, other = Editor(ROWS), Editor(LATER_ROWS)
        for one in (editor, other):
            one.do(("when", "t", "of", "later"))
        self.assertEqual(editor, other)

    def test_other_values(self):
        editor = Editor(MIXED)
        for value in [*ODD_VALUES, MIXED, Editor, editor.log(), editor.schema]:
            self.assertNotEqual(editor, value)
            self.assertNotEqual(value, editor)


class CarriedTest(EditorTest):
    OBJECTS = {"p": ("a", ((1, "p"), "q", (2, "q"))), "q": ("b", (3,)), "r": ("a", ((), 4, ()))}
    GRAPH = Graph(MIXED, OBJECTS)

    def check(self, edit, **objects):
        before = copy.deepcopy(edit), self.GRAPH.objects
        found = carried(self.GRAPH, edit)
        self.assertIs(type(found), Graph)
        editor = Editor(MIXED)
        editor.do(edit)
        self.assertEqual(found.schema, editor.schema)
        self.assertEqual(found.objects, {**self.OBJECTS, **objects})
        self.assertEqual(carried(edit=edit, graph=self.GRAPH), found)
        self.assertEqual((edit, self.GRAPH.objects), before)

    def refused(self, error, attribute, graph, edit):
        before = copy.deepcopy(edit), graph.objects
        with self.assertRaises(error) as caught:
            carried(graph, edit)
        found = caught.exception.at if error is BadEdit else caught.exception.name
        self.assertEqual(found, attribute, edit)
        self.assertEqual((edit, graph.objects), before)

    def test_contents_that_stay(self):
        for edit in (("when", "a", "x", "later"), ("when", "a", "z", "first"), ("reads", "a", "own"),
                     ("reads", "a", ("x", "y", "z")), ("reads", "b", ("w",)), ("targets", "b", "w", ("", "a", "b")),
                     ("move", "a", "x", 0), ("move", "b", "w", 0)):
            self.check(edit)

    def test_contents_that_move(self):
        self.check(("move", "a", "x", 1), p=("a", ("q", (1, "p"), (2, "q"))), r=("a", (4, (), ())))
        self.check(("move", "a", "x", 2), p=("a", ("q", (2, "q"), (1, "p"))), r=("a", (4, (), ())))
        self.check(("move", "a", "z", 0), p=("a", ((2, "q"), (1, "p"), "q")), r=("a", ((), (), 4)))
        self.check(("move", "a", "y", 0), p=("a", ("q", (1, "p"), (2, "q"))), r=("a", (4, (), ())))

    def test_contents_that_are_dropped(self):
        self.check(("drop", "a", "z"), p=("a", ((1, "p"), "q")), r=("a", ((), 4)))
        self.check(("drop", "b", "w"), q=("b", ()))

    def test_contents_that_are_added(self):
        for form, nothing in (("one", 0), ("row", ()), ("set", ())):
            slot = ("new", "later", form, ("", "a"))
            self.check(("add", "a", 0, slot), p=("a", (nothing, (1, "p"), "q", (2, "q"))),
                       r=("a", (nothing, (), 4, ())))
            self.check(("add", "a", 3, slot), p=("a", ((1, "p"), "q", (2, "q"), nothing)),
                       r=("a", ((), 4, (), nothing)))
            self.check(("add", "b", 1, ("new", "first", form, ("",))), q=("b", (3, nothing)))

    def test_targets(self):
        self.check(("targets", "a", "z", ("", "b")))
        self.check(("targets", "a", "x", ("", "a", "b")))
        self.refused(BadGraph, "p", self.GRAPH, ("targets", "a", "x", ("a",)))
        self.refused(BadGraph, "p", self.GRAPH, ("targets", "a", "x", ("",)))
        self.refused(BadGraph, "p", self.GRAPH, ("targets", "a", "y", ("", "a")))
        self.refused(BadGraph, "r", self.GRAPH, ("targets", "a", "y", ("b",)))
        self.refused(BadGraph, "q", self.GRAPH, ("targets", "b", "w", ("a", "b")))

    def test_slots_that_are_added_without_numbers(self):
        self.refused(BadGraph, "p", self.GRAPH, ("add", "a", 1, ("new", "later", "one", ("a", "b"))))
        self.refused(BadGraph, "q", self.GRAPH, ("add", "b", 1, ("new", "first", "one", ("a",))))
        self.check(("add", "b", 1, ("new", "first", "row", ("a",))), q=("b", (3, ())))
        # Where there is no object, nothing is wrong.
        graph = Graph(MIXED, {"r": self.OBJECTS["r"]})
        edit = ("add", "b", 1, ("new", "first", "one", ("a",)))
        self.assertEqual(carried(graph, edit).objects, graph.objects)
        self.assertEqual(carried(Graph(MIXED, {}), ("add", "a", 1, ("new", "later", "one", ("a",)))).objects, {})

    def test_bad_edits(self):
        for edit in [*NO_EDITS, *NOTHING_THERE, ("undo",)]:
            self.refused(BadEdit, 0, self.GRAPH, edit)

    def test_bad_schemas(self):
        for edit, name in NO_SCHEMAS:
            self.refused(BadSchema, name, self.GRAPH, edit)
        for value in ODD_VALUES:
            self.refused(BadSchema, "a", self.GRAPH, ("targets", "a", "x", value))
            self.refused(BadSchema, "b", self.GRAPH, ("add", "b", 0, value))

    def test_every_kind_of_edit(self):
        for edit, name, slots, read in DONE:
            if edit[0] != "targets":
                self.assertEqual(carried(self.GRAPH, edit).schema, with_class(MIXED, name, slots, read))
                self.assertEqual(carried(self.GRAPH, edit).names, self.GRAPH.names)

    def test_there_and_back(self):
        there = [(("move", "a", "x", 2), ("move", "a", "x", 0)), (("move", "a", "z", 1), ("move", "a", "z", 2)),
                 (("add", "a", 1, NEW), ("drop", "a", "new")),
                 (("when", "a", "x", "later"), ("when", "a", "x", "first")),
                 (("targets", "b", "w", ("", "b")), ("targets", "b", "w", ("",)))]
        for edit, back in there:
            self.assertEqual(carried(carried(self.GRAPH, edit), back), self.GRAPH)


class DemandsTest(unittest.TestCase):
    def test_what_holds_stays_so_if_demands_are_taken_away(self):
        rng = random.Random(21)
        many = {"when": 0, "drop": 0, "targets": 0}
        for _ in range(300):
            schema = reference.some_schema(rng, classes=3, likely=0.4)
            editor = Editor(schema)
            if decided(schema)[0] == "good":
                for name, slots, read in schema.classes:
                    for slot in slots:
                        edits = [("when", name, slot[0], "later")]
                        if slot[0] not in read:
                            edits.append(("drop", name, slot[0]))
                        for target in slot[3]:
                            if len(slot[3]) > 1:
                                edits.append(("targets", name, slot[0], tuple(t for t in slot[3] if t != target)))
                        for edit in edits:
                            self.assertEqual(editor.do(edit), "good")
                            editor.do(("undo",))
                            many[edit[0]] += 1
        self.assertGreater(min(many.values()), 100)

    def test_graphs_are_carried_through_changes(self):
        # A graph with a plan has one in the schema in which a slot is filled in later, or has been dropped.
        rng = random.Random(22)
        many = 0
        for _ in range(200):
            schema = reference.some_schema(rng, classes=2)
            for graph in reference.some_graphs(rng, schema, (2, 3, 4)):
                if reference.is_sound(graph) and reference.has_plan(graph):
                    for name, slots, read in schema.classes:
                        for slot in slots:
                            edits = [("when", name, slot[0], "later"), ("move", name, slot[0], 0)]
                            edits += [("drop", name, slot[0])] if slot[0] not in read else []
                            for edit in edits:
                                found = carried(graph, edit)
                                self.assertTrue(reference.is_sound(found) and reference.has_plan(found))
                                many += 1
        self.assertGreater(many, 300)


if __name__ == "__main__":
    unittest.main()
