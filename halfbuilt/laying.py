"""Ways among the kinds of a schema, and graphs that are laid along them."""

from halfbuilt.graphs import Graph, reached
from halfbuilt.schemas import LETTERS, ground_order


def steps_from(schema, kind):
    """All steps from a kind by a slot of its class: triples (slot, whether a hash reads it, the next kind)."""
    state, name = kind
    grounded = schema.grounded()
    found = []
    for slot in schema.slots(name):
        is_read = state == "ready" and slot[0] in schema.reads(name)
        targets = [target for target in slot[3] if target != ""]
        if is_read or slot[2] == "set":
            found.extend([(slot, is_read, ("ready", target)) for target in targets if target in grounded])
        else:
            found.extend([(slot, is_read, ("make", target)) for target in targets])
    return found


def shortest_way(steps, start, goal):
    """The shortest list of pairs (node, label) that lead from start to goal; None if there is none.

    steps is a dict from each node to the list of the pairs (label, next node).
    """
    ways = {start: []}
    front = [start]
    while front and goal not in ways:
        further = []
        for node in front:
            for label, other in steps[node]:
                if other not in ways:
                    ways[other] = [*ways[node], (node, label)]
                    further.append(other)
        front = further
    return ways.get(goal)


def laid_name(place):
    """The name of the object that is laid at a place of a walk."""
    return "o" + LETTERS[place]


def laid(schema, walk, also):
    """A graph with an object for each pair (class, slot) of a walk, which holds the next one in this slot.

    The last one holds the first one. Besides, the slot also of the first one has a word, if also is not None.
    Other slots have numbers, nothing, or objects whose hashes end if that can be.
    """
    ends = _ends(schema)
    objects = {}
    for place, (name, slot_name) in enumerate(walk):
        contents = []
        for slot in schema.slots(name):
            if slot[0] == slot_name:
                contents.append(_content(slot, laid_name((place + 1) % len(walk))))
            elif place == 0 and slot[0] == also:
                contents.append(_content(slot, _end_in(slot, ends)))
            else:
                contents.append(_filling(slot, ends))
        objects[laid_name(place)] = (name, tuple(contents))
    for name in ends:
        objects[ends[name]] = (name, tuple([_filling(slot, ends) for slot in schema.slots(name)]))
    used = reached(Graph(schema, objects), [laid_name(place) for place in range(len(walk))])
    return Graph(schema, {name: objects[name] for name in used})


def _ends(schema):
    """A dict from each class to the name of an object that fills slots, its hash ending if the class is grounded."""
    grounded = ground_order(schema)
    # A word is looked for in this order, so that a hash leads to classes further in front only.
    ordered = grounded + [name for name in schema.names if name not in grounded]
    return {name: "e" + LETTERS[place] for place, name in enumerate(ordered)}


def _filling(slot, ends):
    return _end_in(slot, ends) if slot[2] == "one" else ()


def _end_in(slot, ends):
    if "" in slot[3]:
        return 0
    return [ends[name] for name in ends if name in slot[3]][0]


def _content(slot, word):
    return word if slot[2] == "one" else (word,)
