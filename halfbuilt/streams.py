"""Streams of operations that build graphs, read step by step, and streams that are made of graphs."""

from halfbuilt.depth import early, order
from halfbuilt.errors import BadStream, NoOrder
from halfbuilt.graphs import (
    MOST_OBJECTS, MOST_WORDS, Graph, in_order, is_allowed_word, is_number, led_to, place_in_set, reached)
from halfbuilt.plans import check_sound, plan
from halfbuilt.schemas import LETTERS, is_whole

# The words of the operations, with their numbers of parts.
OPERATIONS = (("get", 2), ("make", 2), ("mark", 1), ("number", 2), ("pop", 1), ("put", 2), ("root", 1))


def read(schema, stream):
    """The pair (graph, roots) that a stream builds."""
    if not isinstance(stream, (list, tuple)):
        raise BadStream(0)
    building = Building(schema)
    for index, operation in enumerate(stream):
        if not building.does(operation):
            raise BadStream(index)
    if not building.is_finished():
        raise BadStream(len(stream))
    return (building.graph(), building.roots())


def stream_of(graph, roots):
    """A stream that builds the graph of the objects to which roots lead."""
    check_sound(graph)
    names = reached(graph, roots)
    objects = graph.objects
    answer = plan(Graph(graph.schema, {name: objects[name] for name in names}))
    if answer[0] == "cycle":
        raise NoOrder("the graph has no plan")
    return _stream_along(graph, answer[1], roots)


def depth_stream(graph, roots):
    """The same with makes and puts in the depth-first order."""
    if early(graph, roots):
        raise NoOrder("the depth-first order has early uses")
    return _stream_along(graph, order(graph, roots), roots)


class Building:
    """What a stream has built so far: a stack, on which a mark is None, and objects, which are words by their names.

    Each object is a pair of its class and a dict from its slots to the lists of their words.
    """

    def __init__(self, schema):
        self._schema = schema
        self._stack = []
        self._made = {}
        self._rooted = []

    def does(self, operation):
        """Does an operation; False if it is wrong, and then nothing more can be done."""
        if not isinstance(operation, tuple) or (*operation[:1], len(operation)) not in OPERATIONS:
            return False
        if operation[0] == "number":
            return self._number(operation[1])
        if operation[0] == "get":
            return self._get(operation[1])
        if operation[0] == "make":
            return self._make(operation[1])
        if operation[0] == "put":
            return self._put(operation[1])
        if operation[0] == "mark":
            self._stack.append(None)
            return True
        word = self._taken_word()
        if operation[0] == "root":
            self._rooted.append(word)
            return isinstance(word, str)
        return word is not None

    def is_finished(self):
        """Whether the stack is empty, and each single word is there."""
        return not self._stack and not any([self._misses(name, self._slots(name)) for name in self._made])

    def graph(self):
        """The graph of all objects that are made."""
        objects = {}
        for name in self._made:
            contents = [_content(slot[2], self._words(name, slot)) for slot in self._slots(name)]
            objects[name] = (self._made[name][0], tuple(contents))
        return Graph(self._schema, objects)

    def roots(self):
        """The tuple of the roots."""
        return tuple(self._rooted)

    def _number(self, number):
        self._stack.append(number)
        return is_number(number)

    def _get(self, number):
        if not is_whole(number, 0, len(self._made) - 1):
            return False
        self._stack.append(_name_of(number))
        return True

    def _make(self, class_name):
        if class_name not in self._schema.names or len(self._made) == MOST_OBJECTS:
            return False
        held = {}
        for slot in self._schema.slots(class_name)[::-1]:
            held[slot[0]] = self._taken_for(slot) if slot[1] == "first" else []
            if held[slot[0]] is None or not self._may_hold(slot, [], held[slot[0]]):
                return False
        name = _name_of(len(self._made))
        self._made[name] = (class_name, held)
        self._stack.append(name)
        return True

    def _put(self, slot_name):
        word = self._taken_word()
        name = self._stack[-1] if self._stack else None
        if word is None or not isinstance(name, str):
            return False
        slots = [slot for slot in self._slots(name) if slot[0] == slot_name and slot[1] == "later"]
        if not slots or not self._may_hold(slots[0], self._words(name, slots[0]), [word]):
            return False
        if slots[0] in self._read_slots(name) and name in self._used_with(slots[0], word):
            return False
        self._words(name, slots[0]).append(word)
        return True

    def _taken_word(self):
        """Takes a word from the stack; None if there is none on top of it."""
        return self._stack.pop() if self._stack else None

    def _taken_for(self, slot):
        """Takes the contents of a slot from the stack; None if they are not there."""
        if slot[2] == "one":
            word = self._taken_word()
            return None if word is None else [word]
        words = []
        while self._stack:
            word = self._stack.pop()
            if word is None:
                return words[::-1]
            words.append(word)
        return None

    def _may_hold(self, slot, words, more):
        """Whether a slot with some words may get more of them."""
        both = [*words, *more]
        if len(both) > (1 if slot[2] == "one" else MOST_WORDS):
            return False
        if not all([is_allowed_word(self._made, slot[3], word) for word in more]):
            return False
        return slot[2] != "set" or (len(set(both)) == len(both) and self._are_settled(more))

    def _are_settled(self, words):
        needed = self._hashed()
        for name in self._made:
            if self._misses(name, self._read_slots(name)):
                # What needs itself is never in order.
                needed[name].append(name)
        settled = in_order(needed)
        return all([word in settled for word in words if isinstance(word, str)])

    def _used_with(self, slot, word):
        """The list of the used objects, if a word is put into a slot."""
        used = [other for name in self._made for row in self._slots(name) if row[2] == "set"
                for other in self._words(name, row)]
        if slot[2] == "set":
            used.append(word)
        return led_to(self._hashed(), [other for other in used if isinstance(other, str)])

    def _hashed(self):
        """A new dict from all objects to the lists of the objects that they hash."""
        hashed = {}
        for name in self._made:
            words = [word for slot in self._read_slots(name) for word in self._words(name, slot)]
            hashed[name] = [word for word in words if isinstance(word, str)]
        return hashed

    def _misses(self, name, slots):
        """Whether one of these slots of an object has no single word yet."""
        return any([slot[2] == "one" and not self._words(name, slot) for slot in slots])

    def _slots(self, name):
        return self._schema.slots(self._made[name][0])

    def _read_slots(self, name):
        read_names = self._schema.reads(self._made[name][0])
        return [slot for slot in self._slots(name) if slot[0] in read_names]

    def _words(self, name, slot):
        return self._made[name][1][slot[0]]


def _name_of(number):
    return "o" + LETTERS[number]


def _content(form, words):
    if form == "one":
        return words[0]
    return tuple(words) if form == "row" else tuple(sorted(words, key=place_in_set))


def _stream_along(graph, planned, roots):
    """The stream that makes and puts in the order of a plan of the objects to which roots lead."""
    numbers = {}
    found = []
    for event in planned:
        name = event[1]
        if event[0] == "make":
            found.extend(_filling(graph, name, numbers))
            numbers[name] = len(numbers)
        else:
            word = graph.words(name, event[2])[event[3]]
            found.extend([("get", numbers[name]), _pushing(word, numbers), ("put", event[2])])
        found.append(("pop",))
    for root in roots:
        found.extend([("get", numbers[root]), ("root",)])
    return tuple(found)


def _filling(graph, name, numbers):
    """The operations that make an object."""
    found = []
    for slot in graph.schema.slots(graph.class_of(name)):
        if slot[1] == "first":
            marked = [] if slot[2] == "one" else [("mark",)]
            found.extend(marked + [_pushing(word, numbers) for word in graph.words(name, slot[0])])
    return [*found, ("make", graph.class_of(name))]


def _pushing(word, numbers):
    return ("get", numbers[word]) if isinstance(word, str) else ("number", word)
