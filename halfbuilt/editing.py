"""Edits of schemas, editors that do and undo them, and graphs that are carried through an edit."""

from halfbuilt.errors import BadEdit
from halfbuilt.every import decided
from halfbuilt.graphs import Graph
from halfbuilt.schemas import Schema, is_whole

# The words of the edits, with their numbers of parts.
EDITS = (("add", 4), ("drop", 3), ("move", 4), ("reads", 3), ("targets", 4), ("undo", 1), ("when", 4))


class Editor:
    """A schema that is edited, and the edits that led to it."""

    def __init__(self, schema):
        self._first = schema
        self._steps = ()

    def __eq__(self, other):
        return isinstance(other, Editor) and self.schema == other.schema and self.log() == other.log()

    @property
    def schema(self):
        """The schema as it is now."""
        return self._steps[-1][1] if self._steps else self._first

    def do(self, edit):
        """Does an edit, and returns "good" or "bad" as the schema is then."""
        self.change(edit)
        return decided(self.schema)[0]

    def change(self, edit):
        """Does an edit without deciding what the schema is then."""
        if not _is_edit(edit):
            raise BadEdit(0)
        if edit[0] != "undo":
            self._steps = (*self._steps, (edit, _schema_behind(self.schema, edit)))
        elif self._steps:
            self._steps = self._steps[:-1]
        else:
            raise BadEdit(0)

    def do_all(self, edits):
        """Does all edits or none, and returns the list of what each one returns."""
        if not isinstance(edits, (list, tuple)):
            raise BadEdit(0)
        for at, edit in enumerate(edits):
            if not _is_edit(edit):
                raise BadEdit(at)
        return self.attempt(lambda editor: [editor.do(row) for row in edits])

    def attempt(self, work):
        """Returns what work returns for this editor; if it raises anything, the editor is as before."""
        kept = self._steps
        try:
            found = work(self)
            kept = self._steps
        finally:
            self._steps = kept
        return found

    def log(self):
        """The list of the edits that stand."""
        return [edit for edit, _ in self._steps]

    def steps(self):
        """The list of the pairs (edit, schema behind it) of the edits that stand."""
        return list(self._steps)

    def first(self):
        """The schema before all edits."""
        return self._first

    def twin(self):
        """Another editor that is as this one is."""
        other = Editor(self._first)
        other._steps = self._steps
        return other


def carried(graph, edit):
    """The graph of the schema behind an edit with the same objects."""
    if not _is_edit(edit) or edit[0] == "undo":
        raise BadEdit(0)
    schema = _schema_behind(graph.schema, edit)
    places = _places(graph.schema.slots(edit[1]), edit)
    objects = graph.objects
    for name in graph.names:
        class_name, contents = objects[name]
        if class_name == edit[1]:
            held = [_nothing(edit[3]) if place is None else contents[place] for place in places]
            objects[name] = (class_name, tuple(held))
    return Graph(schema, objects)


def _is_edit(thing):
    """Whether any value is a tuple of a word of the edits and as many parts."""
    return isinstance(thing, tuple) and (*thing[:1], len(thing)) in EDITS


def _schema_behind(schema, edit):
    """The schema behind an edit that is not an undo."""
    if edit[1] not in schema.names:
        raise BadEdit(0)
    places = _places(schema.slots(edit[1]), edit)
    classes = []
    for name, slots, read in schema.classes:
        if name == edit[1]:
            slots = tuple([edit[3] if place is None else _slot_behind(slots[place], edit) for place in places])
            read = edit[2] if edit[0] == "reads" else read
        classes.append((name, slots, read))
    return Schema(classes)


def _places(slots, edit):
    """The places of the slots behind an edit before it, None for a slot that is added."""
    places = list(range(len(slots)))
    if edit[0] == "reads":
        return places
    if edit[0] == "add":
        _check_index(edit[2], len(slots))
        places.insert(edit[2], None)
        return places
    names = [slot[0] for slot in slots]
    if edit[2] not in names:
        raise BadEdit(0)
    if edit[0] in ("drop", "move"):
        place = places.pop(names.index(edit[2]))
        if edit[0] == "move":
            _check_index(edit[3], len(places))
            places.insert(edit[3], place)
    return places


def _check_index(thing, last):
    if not is_whole(thing, 0, last):
        raise BadEdit(0)


def _slot_behind(slot, edit):
    """What an edit makes of a slot that stays."""
    if slot[0] != edit[2]:
        return slot
    if edit[0] == "when":
        return (slot[0], edit[3], *slot[2:])
    if edit[0] == "targets":
        return (*slot[:3], edit[3])
    return slot


def _nothing(slot):
    """The contents of a slot that is added."""
    return 0 if slot[2] == "one" else ()
