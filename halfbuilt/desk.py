"""A desk that is asked about a schema, and told edits of it, by rows of words."""

from halfbuilt.depth import calm
from halfbuilt.editing import Editor
from halfbuilt.errors import BadEdit, BadSchema
from halfbuilt.every import decided
from halfbuilt.repairs import repairs
from halfbuilt.schemas import is_name
from halfbuilt.texts import are_names, is_count, lines_of, schema_text


def _told_good(schema):
    return "yes" if decided(schema)[0] == "good" else "no"


def _told_calm(schema):
    answer = calm(schema)[0]
    if answer == "bad":
        return "bad"
    return "yes" if answer == "calm" else "no"


def _told_repairs(schema):
    return ", ".join([_told_set(slots) for slots in repairs(schema)])


def _told_set(slots):
    return " ".join([f"{name}.{slot}" for name, slot in slots]) if slots else "-"


def _told_grounded(schema):
    names = schema.grounded()
    return " ".join(names) if names else "none"


def _told_text(schema):
    return schema_text(schema)[:-1].replace("\n", ";")


QUESTIONS = {"calm": _told_calm, "good": _told_good, "grounded": _told_grounded, "repairs": _told_repairs,
             "text": _told_text}


class Desk:
    """An editor that is used by rows of words."""

    def __init__(self, schema):
        self.editor = Editor(schema)

    def say(self, row):
        """The answer to a row."""
        if not isinstance(row, str):
            return "unknown"
        if row in QUESTIONS:
            question = QUESTIONS[row]
            return question(self.editor.schema)
        edit = _edit_in(row.split(" "))
        if edit is None:
            return "unknown"
        try:
            return self.editor.do(edit)
        except BadEdit:
            return "error badedit"
        except BadSchema:
            return "error badschema"


def answers(schema, text):
    """The list of what a new desk answers to the lines of a text."""
    desk = Desk(schema)
    return [desk.say(line) for line in lines_of(text)]


def _edit_in(words):
    """The edit that is told by words; None if they are none."""
    if words == ["undo"]:
        return ("undo",)
    word, names = words[0], words[1:]
    if word == "reads" and names and are_names(names):
        return ("reads", names[0], tuple(names[1:]))
    if word == "own" and len(names) == 1 and is_name(names[0]):
        return ("reads", names[0], "own")
    if word == "drop" and len(names) == 2 and are_names(names):
        return tuple(words)
    if len(names) != 3 or not are_names(names[:2]):
        return None
    if word == "when" and names[2] in ("first", "later"):
        return tuple(words)
    if word == "move" and is_count(names[2]):
        return ("move", names[0], names[1], int(names[2]))
    return None
