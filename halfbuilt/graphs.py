"""Graphs: objects that refer to one another, and which of them hash which."""

from halfbuilt.errors import BadGraph, BadRoots, NoName
from halfbuilt.schemas import is_ascending, is_name, is_whole

LARGEST_NUMBER = 999
MOST_OBJECTS = 24
MOST_WORDS = 4


class Graph:
    """A dict from the names of objects of a schema to pairs (class, contents)."""

    def __init__(self, schema, objects):
        if not _has_names(objects):
            raise BadGraph(None)
        names = sorted(objects)
        for name in names:
            if not _is_object(schema, objects[name]):
                raise BadGraph(name)
        for name in names:
            if not _is_allowed_object(schema, objects, objects[name]):
                raise BadGraph(name)
        self._schema = schema
        self._objects = {name: objects[name] for name in names}

    def __eq__(self, other):
        return isinstance(other, Graph) and self._schema == other._schema and self._objects == other._objects

    @property
    def schema(self):
        """The schema of the graph."""
        return self._schema

    @property
    def objects(self):
        """A new dict from the names of the objects to pairs (class, contents)."""
        return {name: self._objects[name] for name in self._objects}

    @property
    def names(self):
        """The ascending tuple of the names of the objects."""
        return tuple(self._objects)

    def class_of(self, name):
        """The name of the class of an object."""
        # Any value may stand here, also one that cannot be looked up in a dict.
        if not is_name(name) or name not in self._objects:
            raise NoName(name)
        return self._objects[name][0]

    def words(self, name, slot):
        """The tuple of the words of a slot of an object."""
        slots = self._schema.slots(self.class_of(name))
        for row, content in zip(slots, self._objects[name][1]):
            if row[0] == slot:
                return _words_of(row[2], content)
        raise NoName(slot)


def is_number(thing):
    """Whether any value is an integer that a word can be."""
    return is_whole(thing, -LARGEST_NUMBER, LARGEST_NUMBER)


def place_in_set(word):
    """What the words of a set are sorted by: integers come before names."""
    return (isinstance(word, str), word)


def objects_in(graph, name, slots):
    """The ascending list of the objects that are words of these slots of an object."""
    return sorted({word for slot in slots for word in graph.words(name, slot) if isinstance(word, str)})


def hashes(graph, name):
    """The ascending list of the objects that an object hashes."""
    return objects_in(graph, name, graph.schema.reads(graph.class_of(name)))


def members(graph):
    """The ascending list of the objects that are words of a slot with the form "set"."""
    found = {}
    for name in graph.names:
        slots = graph.schema.slots(graph.class_of(name))
        for member in objects_in(graph, name, [slot[0] for slot in slots if slot[2] == "set"]):
            found[member] = True
    return sorted(found)


def is_sound(graph):
    """Whether the hash of each member ends."""
    return endless(graph) is None


def endless(graph):
    """None, or a walk from a member along hashes that ends at an object where it was before."""
    hashed_by = _hashed_by(graph)
    ending = in_order(hashed_by)
    for name in members(graph):
        if name not in ending:
            return walk_round(hashed_by, ending, name)
    return None


def hashed(graph):
    """The ascending list of the objects that are hashed: members, and what they hash, and so on."""
    return led_to(_hashed_by(graph), members(graph))


def reached(graph, roots):
    """The ascending list of the objects to which roots lead, themselves included."""
    check_roots(graph, roots)
    led = {}
    for name in graph.names:
        led[name] = objects_in(graph, name, [slot[0] for slot in graph.schema.slots(graph.class_of(name))])
    return led_to(led, roots)


def check_roots(graph, roots):
    """Raises BadRoots if roots are not a list of objects of a graph."""
    if not isinstance(roots, (list, tuple)):
        raise BadRoots(0)
    names = graph.names
    for index, root in enumerate(roots):
        if root not in names:
            raise BadRoots(index)


def in_order(led):
    """The keys of a dict of lists of keys, each one behind all in its list, as far as that can be."""
    leading = {key: [] for key in led}
    missing = {key: len(led[key]) for key in led}
    for key in led:
        for other in led[key]:
            leading[other].append(key)
    found = []
    waiting = [key for key in led if missing[key] == 0]
    while waiting:
        found.append(waiting.pop())
        for other in leading[found[-1]]:
            missing[other] -= 1
            if missing[other] == 0:
                waiting.append(other)
    return found


def walk_round(led, ordered, start):
    """The walk from a key that is not in order, from each key to one in its list, until it is where it was before."""
    walk = [start]
    while walk[-1] not in walk[:-1]:
        # What is not in order always has something in its list that is not in order either.
        walk.append([other for other in led[walk[-1]] if other not in ordered][0])
    return tuple(walk)


def _hashed_by(graph):
    return {name: hashes(graph, name) for name in graph.names}


def led_to(led, starts):
    """The ascending list of the keys to which some keys of a dict of lists of keys lead, themselves included."""
    found = {}
    waiting = list(starts)
    while waiting:
        name = waiting.pop()
        if name not in found:
            found[name] = True
            waiting.extend(led[name])
    return sorted(found)


def _has_names(thing):
    if not isinstance(thing, dict) or len(thing) > MOST_OBJECTS:
        return False
    return all([is_name(key) for key in thing])


def _is_object(schema, thing):
    if not isinstance(thing, tuple) or len(thing) != 2:
        return False
    class_name, contents = thing
    if class_name not in schema.names or not isinstance(contents, tuple):
        return False
    slots = schema.slots(class_name)
    if len(contents) != len(slots):
        return False
    return all([_is_content(slot[2], content) for slot, content in zip(slots, contents)])


def _is_content(form, thing):
    if form == "one":
        return _is_word(thing)
    if not isinstance(thing, tuple) or len(thing) > MOST_WORDS:
        return False
    if not all([_is_word(word) for word in thing]):
        return False
    return form == "row" or is_ascending([place_in_set(word) for word in thing])


def _is_word(thing):
    return is_number(thing) or is_name(thing)


def _words_of(form, content):
    return (content,) if form == "one" else content


def _is_allowed_object(schema, objects, pair):
    for slot, content in zip(schema.slots(pair[0]), pair[1]):
        if not all([is_allowed_word(objects, slot[3], word) for word in _words_of(slot[2], content)]):
            return False
    return True


def is_allowed_word(objects, targets, word):
    """Whether a word may stand in a slot with these targets, the objects being pairs that begin with a class."""
    if isinstance(word, int):
        return "" in targets
    return word in objects and objects[word][0] in targets
