"""Schemas: the classes of which objects are made, and their slots."""

from halfbuilt.errors import BadSchema, NoName

LETTERS = "abcdefghijklmnopqrstuvwxyz"
LONGEST_NAME = 6
MOST_CLASSES = 4
MOST_SLOTS = 4


def is_name(thing):
    """Whether any value is a string of 1 to 6 letters a to z."""
    if not isinstance(thing, str) or not 1 <= len(thing) <= LONGEST_NAME:
        return False
    return all([letter in LETTERS for letter in thing])


def is_whole(thing, least, most):
    """Whether any value is an integer from least to most."""
    return isinstance(thing, int) and not isinstance(thing, bool) and least <= thing <= most


def is_ascending(items):
    """Whether each item is less than the next one, so that none occurs twice."""
    return all([items[at] < items[at + 1] for at in range(len(items) - 1)])


class Schema:
    """A tuple of classes, each one a tuple (name, slots, hash)."""

    def __init__(self, classes):
        if not _are_triples(classes):
            raise BadSchema(None)
        names = tuple([triple[0] for triple in classes])
        for triple in classes:
            if not _is_class(triple, names):
                raise BadSchema(triple[0])
        self._classes = tuple(classes)
        self._names = names

    def __eq__(self, other):
        return isinstance(other, Schema) and self._classes == other._classes

    @property
    def classes(self):
        """The tuple of the classes."""
        return self._classes

    @property
    def names(self):
        """The ascending tuple of the names of the classes."""
        return self._names

    def slots(self, name):
        """The tuple of the slots of a class."""
        if name not in self._names:
            raise NoName(name)
        return self._classes[self._names.index(name)][1]

    def reads(self, name):
        """The ascending tuple of the names of the slots that the hash of a class reads."""
        if name not in self._names:
            raise NoName(name)
        read = self._classes[self._names.index(name)][2]
        return () if read == "own" else read

    def grounded(self):
        """The ascending list of the classes of which some finite object can be hashed."""
        return sorted(ground_order(self))


def ground_order(schema):
    """The grounded classes, each one behind classes whose objects can end the hash of one of its objects."""
    found = []
    # A class that is found late may ground others only in a further round.
    for _ in schema.names:
        found = found + [name for name in schema.names if name not in found and _is_grounded_by(schema, name, found)]
    return found


def _is_grounded_by(schema, name, grounded):
    read = schema.reads(name)
    # Rows and sets may be empty: only a single word must be there.
    needed = [slot[3] for slot in schema.slots(name) if slot[0] in read and slot[2] == "one"]
    return all([has_ground(targets, grounded) for targets in needed])


def has_ground(targets, grounded):
    """Whether a word of these targets can be hashed: a number, or an object of a grounded class."""
    return any([target == "" or target in grounded for target in targets])


def _are_triples(thing):
    if not isinstance(thing, (list, tuple)) or not 1 <= len(thing) <= MOST_CLASSES:
        return False
    if not all([isinstance(item, tuple) and len(item) == 3 for item in thing]):
        return False
    names = [item[0] for item in thing]
    return all([is_name(name) for name in names]) and is_ascending(names)


def _is_class(triple, class_names):
    _, slots, read = triple
    if not isinstance(slots, tuple) or len(slots) > MOST_SLOTS:
        return False
    if not all([_is_slot(slot, class_names) for slot in slots]):
        return False
    names = [slot[0] for slot in slots]
    if len(set(names)) < len(names):
        return False
    return read == "own" or _are_names_among(read, names)


def _is_slot(thing, class_names):
    if not isinstance(thing, tuple) or len(thing) != 4:
        return False
    name, when, form, targets = thing
    if not is_name(name) or when not in ("first", "later") or form not in ("one", "row", "set"):
        return False
    return targets != () and _are_names_among(targets, ("", *class_names))


def _are_names_among(thing, names):
    """Whether any value is an ascending tuple of different ones of these names."""
    if not isinstance(thing, tuple) or not all([item in names for item in thing]):
        return False
    return is_ascending(thing)
