"""Journals of editors, which are checked without the editor that wrote them."""

from halfbuilt.editing import Editor
from halfbuilt.errors import BadEdit, BadGraph, BadJournal, BadSchema
from halfbuilt.every import decided, is_ranks
from halfbuilt.graphs import Graph, is_sound
from halfbuilt.plans import is_cycle


def journal_of(editor):
    """The list of the rows (edit, answer) of the log of an editor."""
    return [(edit, _answer_for(schema)) for edit, schema in editor.steps()]


def first_wrong(schema, journal):
    """The index of the first row that is wrong, for any value; None if there is none."""
    if not isinstance(journal, (list, tuple)):
        return 0
    editor = Editor(schema)
    for index, row in enumerate(journal):
        if not _is_right(editor, row):
            return index
    return None


def replayed(schema, journal):
    """The editor behind a journal."""
    row = first_wrong(schema, journal)
    if row is not None:
        raise BadJournal(row)
    editor = Editor(schema)
    for edit, _ in journal:
        editor.change(edit)
    return editor


def _answer_for(schema):
    answer = decided(schema)
    if answer[0] == "good":
        return answer
    return ("bad", answer[1].objects, answer[2])


def _is_right(editor, row):
    """Does the edit of a row, and tells whether the row is right."""
    if not isinstance(row, tuple) or len(row) != 2:
        return False
    try:
        editor.change(row[0])
    except (BadEdit, BadSchema):
        return False
    return _is_answer(editor.schema, row[1])


def _is_answer(schema, thing):
    """Whether any value shows what a schema is."""
    if not isinstance(thing, tuple):
        return False
    if thing[:1] == ("good",):
        return len(thing) == 2 and is_ranks(schema, thing[1])
    return thing[:1] == ("bad",) and len(thing) == 3 and _shows_bad(schema, thing[1], thing[2])


def _shows_bad(schema, objects, cycle):
    try:
        graph = Graph(schema, objects)
    except BadGraph:
        return False
    return is_sound(graph) and is_cycle(graph, cycle)
