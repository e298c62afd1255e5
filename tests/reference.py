"""The points [21], [30], [31], [50] to [52] and [60] to [62] written down once more, and all small graphs.

It is written as plainly as can be: nothing here is quick, and nothing of the program is used but the schemas and
objects of graphs.
"""

import itertools

from halfbuilt.graphs import Graph
from halfbuilt.schemas import Schema


def slots_of(graph, name):
    """The pairs (slot, list of its words) of an object."""
    class_name, contents = graph.objects[name]
    slots = {row[0]: row[1] for row in graph.schema.classes}[class_name]
    return [(slot, [content] if slot[2] == "one" else list(content)) for slot, content in zip(slots, contents)]


def read_by(graph, name):
    read = {row[0]: row[2] for row in graph.schema.classes}[graph.objects[name][0]]
    return () if read == "own" else read


def objects_among(words):
    return [word for word in words if isinstance(word, str)]


def hashed_by(graph, name):
    return {word for slot, words in slots_of(graph, name) if slot[0] in read_by(graph, name)
            for word in objects_among(words)}


def all_hashed(graph):
    found = {word for name in graph.objects for slot, words in slots_of(graph, name) if slot[2] == "set"
             for word in objects_among(words)}
    while True:
        more = found.union(*(hashed_by(graph, name) for name in found))
        if more == found:
            return found
        found = more


def leads_to_itself(steps, start):
    found = set(steps[start])
    while True:
        if start in found:
            return True
        more = found.union(*(steps[other] for other in found))
        if more == found:
            return False
        found = more


def is_sound(graph):
    steps = {name: hashed_by(graph, name) for name in graph.objects}
    return not any(leads_to_itself(steps, name) for name in all_hashed(graph))


def all_needs(graph):
    """A dict from all events and claims to the sets of what they need."""
    found = {}
    for name in graph.objects:
        made = set()
        for slot, words in slots_of(graph, name):
            if slot[1] == "first":
                for word in objects_among(words):
                    made |= {("make", word)} | ({("ready", word)} if slot[2] == "set" else set())
            else:
                for k, word in enumerate(words):
                    needs = {("make", name)}
                    if isinstance(word, str):
                        needs |= {("make", word)} | ({("ready", word)} if slot[2] == "set" else set())
                    if slot[2] == "row" and k > 0:
                        needs.add(("put", name, slot[0], k - 1))
                    found[("put", name, slot[0], k)] = needs
        found[("make", name)] = made
    for name in all_hashed(graph):
        needs = {("make", name)} | {("ready", other) for other in hashed_by(graph, name)}
        for slot, words in slots_of(graph, name):
            if slot[1] == "later" and slot[0] in read_by(graph, name):
                needs |= {("put", name, slot[0], k) for k in range(len(words))}
        found[("ready", name)] = needs
    return found


def all_events(graph):
    return sorted(thing for thing in all_needs(graph) if thing[0] != "ready")


def is_fulfilled(needs, thing, happened, within=()):
    """Whether all that an event or claim needs is there, by the words of point [31]."""
    if thing in within:
        return False
    for other in needs[thing]:
        if other[0] == "ready":
            if not is_fulfilled(needs, other, happened, (*within, thing)):
                return False
        elif other not in happened:
            return False
    return True


def is_plan(graph, events):
    needs = all_needs(graph)
    return all(is_fulfilled(needs, event, events[:at]) for at, event in enumerate(events))


def plans(graph):
    """All plans, found among all orders of the events."""
    return {events for events in itertools.permutations(all_events(graph)) if is_plan(graph, events)}


def has_plan(graph):
    needs = all_needs(graph)
    return not any(leads_to_itself(needs, thing) for thing in needs)


def fewest_objects(graph):
    """The number of objects of a cycle that has as few as any, None if there is no cycle."""
    needs = all_needs(graph)
    for many in range(1, len(graph.objects) + 1):
        for names in itertools.combinations(graph.objects, many):
            kept = {thing: {other for other in needs[thing] if other[1] in names}
                    for thing in needs if thing[1] in names}
            if any(leads_to_itself(kept, thing) for thing in kept):
                return many
    return None


def has_order(graph):
    needs = all_needs(graph)
    makes = {thing: {other for other in needs[thing] if other[0] == "make"} for thing in needs if thing[0] == "make"}
    return not any(leads_to_itself(makes, thing) for thing in makes)


def depth_first(graph, roots):
    """The events and the early uses of the depth-first order."""
    needs = all_needs(graph)
    happened, uses = [], []

    def use(name, slot, word):
        if slot[2] == "set" and isinstance(word, str) and not is_fulfilled(needs, ("ready", word), happened):
            uses.append((name, slot[0], word))

    def save(name):
        if ("make", name) in happened:
            return
        for slot, words in slots_of(graph, name):
            if slot[1] == "first":
                for word in objects_among(words):
                    save(word)
        if ("make", name) in happened:
            return
        for slot, words in slots_of(graph, name):
            if slot[1] == "first":
                for word in words:
                    use(name, slot, word)
        happened.append(("make", name))
        for slot, words in slots_of(graph, name):
            if slot[1] == "later":
                for k, word in enumerate(words):
                    if isinstance(word, str):
                        save(word)
                    use(name, slot, word)
                    happened.append(("put", name, slot[0], k))

    for root in roots:
        save(root)
    return happened, uses


def small_contents(slot, objects, most):
    """All contents of a slot with at most so many words, the number 0 and these objects (name: class)."""
    words = [name for name in objects if objects[name] in slot[3]]
    if slot[2] == "one":
        return ([0] if "" in slot[3] else []) + words
    if slot[2] == "set":
        words = ([0] if "" in slot[3] else []) + words
        return [some for many in range(most + 1) for some in itertools.combinations(words, many)]
    return [some for many in range(most + 1) for some in itertools.product(words, repeat=many)]


def small_graphs(schema, names, most):
    """All graphs of a schema with objects of these names, and at most so many words in each slot."""
    slots = {row[0]: row[1] for row in schema.classes}
    for chosen in itertools.product(schema.names, repeat=len(names)):
        objects = dict(zip(names, chosen))
        choices = []
        for name in names:
            contents = [small_contents(slot, objects, most) for slot in slots[objects[name]]]
            choices.append(list(itertools.product(*contents)))
        for contents in itertools.product(*choices):
            yield Graph(schema, {name: (objects[name], held) for name, held in zip(names, contents)})


def some_schema(rng, classes=2, most_slots=3, likely=0.6):
    """A schema with at most so many classes and slots, drawn from a random source with a fixed seed."""
    names = "abcd"[:rng.randint(1, classes)]
    rows = []
    for name in names:
        slots = []
        for slot_name in rng.sample("wxyz", rng.randint(0, most_slots)):
            targets = tuple(target for target in ("", *names) if rng.random() < likely) or (rng.choice(names),)
            slots.append((slot_name, rng.choice(["first", "later"]), rng.choice(["one", "row", "set"]), targets))
        read = tuple(sorted(slot[0] for slot in slots if rng.random() < 0.5))
        rows.append((name, tuple(slots), rng.choice(["own", read, read, read])))
    return Schema(rows)


def some_graph(rng, schema, names):
    """A graph with objects of these names, drawn likewise; None if a single word that is drawn cannot be had."""
    slots = {row[0]: row[1] for row in schema.classes}
    objects = {name: rng.choice(schema.names) for name in names}
    contents = {}
    for name in names:
        held = []
        for slot in slots[objects[name]]:
            choices = small_contents(slot, objects, 2)
            if not choices:
                return None
            held.append(rng.choice(choices))
        contents[name] = (objects[name], tuple(held))
    return Graph(schema, contents)


def some_graphs(rng, schema, sizes):
    """A graph for each of these sizes, as far as they can be had."""
    drawn = [some_graph(rng, schema, "mnopqrst"[:size]) for size in sizes]
    return [graph for graph in drawn if graph is not None]


def needs_of_kinds(schema):
    """A dict from all kinds to the sets of pairs (kind that is needed, whether strictly), by point [40]."""
    slots = {row[0]: row[1] for row in schema.classes}
    reads = {row[0]: () if row[2] == "own" else row[2] for row in schema.classes}
    grounded = schema.grounded()

    def by_make(slot):
        if slot[2] == "set":
            return {(("ready", target), True) for target in slot[3] if target in grounded}
        return {(("make", target), True) for target in slot[3] if target != ""}

    found = {}
    for name in schema.names:
        found[("make", name)] = set()
        for slot in slots[name]:
            if slot[1] == "first":
                found[("make", name)] |= by_make(slot)
    for name in grounded:
        found[("ready", name)] = set()
        for slot in slots[name]:
            if slot[0] in reads[name]:
                found[("ready", name)] |= {(("ready", target), False) for target in slot[3] if target in grounded}
            elif slot[1] == "first":
                found[("ready", name)] |= by_make(slot)
    return found


def are_ranks(schema, ranks):
    needs = needs_of_kinds(schema)
    return all(ranks[kind] > ranks[other] if strict else ranks[kind] >= ranks[other]
               for kind in needs for other, strict in needs[kind])


class WrongOperation(Exception):
    """An operation of a stream is wrong."""


def must(held):
    if not held:
        raise WrongOperation


class PlainStream:
    """The points [60] and [61], word by word. Objects on the stack are names, marks are the string "mark here"."""

    def __init__(self, schema):
        self.slots = {row[0]: row[1] for row in schema.classes}
        self.reads = {row[0]: () if row[2] == "own" else row[2] for row in schema.classes}
        self.stack, self.made, self.roots = [], {}, []

    def word(self):
        must(self.stack and self.stack[-1] != "mark here")
        return self.stack.pop()

    def all_words(self):
        """The tuples (object, slot, word) for all words that are in slots, and are objects."""
        return {(name, slot, word) for name, (class_name, held) in self.made.items() for slot in self.slots[class_name]
                for word in held[slot[0]] if isinstance(word, str)}

    def is_read(self, name, slot):
        return slot[0] in self.reads[self.made[name][0]]

    def settled(self):
        found = set()
        while True:
            more = set()
            for name, (class_name, held) in self.made.items():
                laters = [slot for slot in self.slots[class_name] if slot[1] == "later" and slot[2] == "one"]
                filled = all(held[slot[0]] for slot in laters if self.is_read(name, slot))
                hashed = {word for other, slot, word in self.all_words() if other == name and self.is_read(name, slot)}
                if filled and hashed <= found:
                    more.add(name)
            if more == found:
                return found
            found = more

    def used(self, more):
        found = set(more) | {word for _, slot, word in self.all_words() if slot[2] == "set"}
        while True:
            more = found | {word for name, slot, word in self.all_words() if name in found and self.is_read(name, slot)}
            if more == found:
                return found
            found = more

    def check_words(self, slot, words):
        must(len(words) <= 4)
        for word in words:
            must("" in slot[3] if isinstance(word, int) else self.made[word][0] in slot[3])
        if slot[2] == "set":
            must(len(words) == len(set(words)))
            must({word for word in words if isinstance(word, str)} <= self.settled())

    def make(self, class_name):
        must(any(class_name == name for name in self.slots))
        must(len(self.made) < 24)
        held = {slot[0]: [] for slot in self.slots[class_name]}
        for slot in reversed([slot for slot in self.slots[class_name] if slot[1] == "first"]):
            if slot[2] == "one":
                held[slot[0]] = [self.word()]
            else:
                must("mark here" in self.stack)
                while self.stack[-1] != "mark here":
                    held[slot[0]].insert(0, self.stack.pop())
                self.stack.pop()
            self.check_words(slot, held[slot[0]])
        name = "o" + "abcdefghijklmnopqrstuvwx"[len(self.made)]
        self.made[name] = (class_name, held)
        self.stack.append(name)

    def put(self, slot_name):
        word = self.word()
        must(self.stack and isinstance(self.stack[-1], str) and self.stack[-1] != "mark here")
        name = self.stack[-1]
        class_name, held = self.made[name]
        slots = [slot for slot in self.slots[class_name] if slot[:2] == (slot_name, "later")]
        must(slots)
        slot = slots[0]
        must(slot[2] != "one" or not held[slot_name])
        self.check_words(slot, held[slot_name] + [word])
        more = {word} if slot[2] == "set" and isinstance(word, str) else set()
        must(not (self.is_read(name, slot) and name in self.used(more)))
        held[slot_name].append(word)

    def do(self, operation):
        must(isinstance(operation, tuple) and operation)
        word, *parts = operation
        counts = {"number": 1, "get": 1, "mark": 0, "make": 1, "put": 1, "pop": 0, "root": 0}
        must(isinstance(word, str) and counts.get(word) == len(parts))
        if word == "number":
            must(type(parts[0]) is int and abs(parts[0]) <= 999)
            self.stack.append(parts[0])
        elif word == "get":
            must(type(parts[0]) is int and 0 <= parts[0] < len(self.made))
            self.stack.append(sorted(self.made)[parts[0]])
        elif word == "mark":
            self.stack.append("mark here")
        elif word == "make":
            self.make(parts[0])
        elif word == "put":
            self.put(parts[0])
        elif word == "pop":
            self.word()
        else:
            root = self.word()
            must(isinstance(root, str))
            self.roots.append(root)

    def is_whole(self):
        return not self.stack and all(held[slot[0]] for class_name, held in self.made.values()
                                      for slot in self.slots[class_name] if slot[2] == "one")

    def objects(self):
        found = {}
        for name, (class_name, held) in self.made.items():
            contents = []
            for slot in self.slots[class_name]:
                words = held[slot[0]]
                if slot[2] == "set":
                    words = sorted(word for word in words if isinstance(word, int)) + sorted(objects_among(words))
                contents.append(words[0] if slot[2] == "one" else tuple(words))
            found[name] = (class_name, tuple(contents))
        return found


def read_stream(schema, stream):
    """The pair (objects, roots) that a stream builds, or the index of its first wrong operation."""
    plain = PlainStream(schema)
    for index, operation in enumerate(stream):
        try:
            plain.do(operation)
        except WrongOperation:
            return index
    return (plain.objects(), tuple(plain.roots)) if plain.is_whole() else len(stream)


def are_same(one, roots, other, others):
    """All maps that show that two graphs are the same, by point [62], found among all maps."""
    left = sorted(all_reached(one, roots))
    found = []
    for chosen in itertools.permutations(sorted(all_reached(other, others))):
        if len(chosen) == len(left):
            images = dict(zip(left, chosen))
            if [images[root] for root in roots] == list(others) and all(
                    row_of(one, name, images) == row_of(other, images[name], None) for name in left):
                found.append(images)
    return found


def all_reached(graph, roots):
    found = set(roots)
    while True:
        more = found | {word for name in found for _, words in slots_of(graph, name) for word in objects_among(words)}
        if more == found:
            return found
        found = more


def row_of(graph, name, images):
    """The class of an object, and its slots with their words, which are mapped unless images is None."""
    row = [graph.objects[name][0]]
    for slot, words in slots_of(graph, name):
        if images is not None:
            words = [images.get(word, word) for word in words]
        row.append((slot, set(words) if slot[2] == "set" else words))
    return row
