"""Texts of schemas and graphs, line by line, and reading them."""

from halfbuilt.errors import BadText
from halfbuilt.graphs import Graph
from halfbuilt.schemas import Schema, is_name

DIGITS = "0123456789"
MOST_DIGITS = 6


def schema_text(schema):
    """The text of a schema."""
    lines = []
    for name, slots, read in schema.classes:
        lines.append(["class", name, "own"] if read == "own" else ["class", name, "reads", *read])
        for slot in slots:
            lines.append(["", "", *slot[:3], *[_target_text(target) for target in slot[3]]])
    return _text_of(lines)


def graph_text(graph):
    """The text of a graph."""
    lines = []
    for name in graph.names:
        lines.append([name, graph.class_of(name)])
        for slot in graph.schema.slots(graph.class_of(name)):
            lines.append(["", "", slot[0], *[str(word) for word in graph.words(name, slot[0])]])
    return _text_of(lines)


def read_schema(text):
    """The schema of a text."""
    lines = lines_of(text)
    classes = []
    for row, line in enumerate(lines):
        words = line.split(" ")
        if _is_class_line(words):
            classes.append((words[1], (), "own" if words[2] == "own" else tuple(words[3:])))
        elif _is_slot_line(words) and classes:
            name, slots, read = classes[-1]
            classes[-1] = (name, (*slots, _slot_in(words)), read)
        else:
            raise BadText(row)
    if not text.endswith("\n"):
        raise BadText(len(lines))
    return Schema(classes)


def read_graph(schema, text):
    """The graph of a text."""
    lines = lines_of(text)
    objects = {}
    last = ""
    missing = ()
    for row, line in enumerate(lines):
        words = line.split(" ")
        if missing and _are_words_for(missing[0], words):
            objects[last] = (objects[last][0], (*objects[last][1], _content_in(missing[0], words)))
            missing = missing[1:]
        elif not missing and _is_object_line(schema, words) and last < words[0]:
            last = words[0]
            objects[last] = (words[1], ())
            missing = schema.slots(words[1])
        else:
            raise BadText(row)
    if missing or (lines and not text.endswith("\n")):
        raise BadText(len(lines))
    return Graph(schema, objects)


def lines_of(text):
    """The list of the lines of a text, each ended by a newline; the last one may lack it."""
    if not isinstance(text, str):
        raise BadText(0)
    lines = text.split("\n")
    return lines if lines[-1] != "" else lines[:-1]


def is_count(text):
    """Whether a string is an integer of at most 6 digits, without a sign and without leading zeros."""
    if not 1 <= len(text) <= MOST_DIGITS or not all([letter in DIGITS for letter in text]):
        return False
    return text == "0" or text[0] != "0"


def are_names(words):
    """Whether all strings of a list are names."""
    return all([is_name(word) for word in words])


def _text_of(lines):
    return "".join([" ".join(words) + "\n" for words in lines])


def _target_text(target):
    return "#" if target == "" else target


def _is_class_line(words):
    if len(words) < 3 or words[0] != "class" or not is_name(words[1]):
        return False
    return words[2:] == ["own"] or (words[2] == "reads" and are_names(words[3:]))


def _is_slot_line(words):
    if len(words) < 6 or words[:2] != ["", ""] or not is_name(words[2]):
        return False
    if words[3] not in ("first", "later") or words[4] not in ("one", "row", "set"):
        return False
    return all([word == "#" or is_name(word) for word in words[5:]])


def _slot_in(words):
    targets = ["" if word == "#" else word for word in words[5:]]
    return (*words[2:5], tuple(targets))


def _is_object_line(schema, words):
    return len(words) == 2 and is_name(words[0]) and words[1] in schema.names


def _are_words_for(slot, words):
    """Whether the words of a line are those of this slot."""
    if words[:3] != ["", "", slot[0]] or (slot[2] == "one" and len(words) != 4):
        return False
    return all([is_name(word) or _is_integer(word) for word in words[3:]])


def _is_integer(text):
    return is_count(text) or (text != "-0" and text[:1] == "-" and is_count(text[1:]))


def _content_in(slot, words):
    held = [word if is_name(word) else int(word) for word in words[3:]]
    return held[0] if slot[2] == "one" else tuple(held)
