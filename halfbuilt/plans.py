"""The events of a graph, what they need, and plans that fulfil all of it or cycles that forbid one."""

from halfbuilt.errors import NoName, NotSound
from halfbuilt.graphs import hashed, hashes, in_order, is_sound, objects_in, walk_round


def events(graph):
    """The ascending list of all events."""
    found = []
    for name in graph.names:
        found.append(("make", name))
        for slot in graph.schema.slots(graph.class_of(name)):
            if slot[1] == "later":
                found.extend(puts_into(graph, name, slot[0]))
    return sorted(found)


def puts_into(graph, name, slot_name):
    """The list of the events that put the words into a slot, in order."""
    return [("put", name, slot_name, k) for k in range(len(graph.words(name, slot_name)))]


def needed(graph, thing):
    """The ascending list of what an event or claim needs directly."""
    if not is_among(_events_and_claims(graph), thing):
        raise NoName(thing)
    return _needed_by(graph, thing)


def needs_of(graph):
    """A dict from all events and claims to the lists of what they need directly."""
    return {thing: _needed_by(graph, thing) for thing in _events_and_claims(graph)}


def events_behind(needs, thing):
    """The list of the events that an event or claim needs directly or by further claims."""
    found = []
    met = set()
    waiting = [thing]
    while waiting:
        for other in needs[waiting.pop()]:
            if other not in met:
                met.add(other)
                if other[0] == "ready":
                    waiting.append(other)
                else:
                    found.append(other)
    return found


def is_among(things, thing):
    """Whether any value is one of these events and claims."""
    if not isinstance(thing, tuple):
        return False
    # True equals 1 and False equals 0, but neither is an integer; and a list is in no event.
    if not all([isinstance(part, (str, int)) and not isinstance(part, bool) for part in thing]):
        return False
    return thing in things


def plan(graph):
    """("plan", a plan), or ("cycle", a cycle) if there is none."""
    check_sound(graph)
    needs = needs_of(graph)
    fulfilled = {thing: True for thing in in_order(needs)}
    left = [thing for thing in needs if thing not in fulfilled]
    if not left:
        return ("plan", tuple([thing for thing in fulfilled if thing[0] != "ready"]))
    walk = walk_round(needs, fulfilled, left[0])
    return ("cycle", walk[walk.index(walk[-1]):-1])


def is_plan(graph, thing):
    """Whether any value is a plan."""
    check_sound(graph)
    needs = needs_of(graph)
    if not isinstance(thing, tuple):
        return False
    if not all([is_among(needs, item) and item[0] != "ready" for item in thing]):
        return False
    happened = {}
    for event in thing:
        if event in happened or not all([other in happened for other in events_behind(needs, event)]):
            return False
        happened[event] = True
    return len(happened) == len(events(graph))


def is_cycle(graph, thing):
    """Whether any value is a cycle."""
    check_sound(graph)
    needs = needs_of(graph)
    if not isinstance(thing, tuple) or not all([is_among(needs, item) for item in thing]):
        return False
    following = thing[1:] + thing[:1]
    return thing != () and all([after in needs[before] for before, after in zip(thing, following)])


def check_sound(graph):
    """Raises NotSound if a graph is not sound."""
    if not is_sound(graph):
        raise NotSound("the hash of a member never ends")


def _events_and_claims(graph):
    return events(graph) + [("ready", name) for name in hashed(graph)]


def _needed_by(graph, thing):
    name = thing[1]
    if thing[0] == "make":
        found = _needed_by_make(graph, name)
    elif thing[0] == "put":
        found = _needed_by_put(graph, name, thing[2], thing[3])
    else:
        found = _needed_by_claim(graph, name)
    return sorted(set(found))


def _needed_by_make(graph, name):
    found = []
    for slot in graph.schema.slots(graph.class_of(name)):
        if slot[1] == "first":
            for word in objects_in(graph, name, [slot[0]]):
                found.extend(_needed_for_word(slot, word))
    return found


def _needed_by_put(graph, name, slot_name, k):
    found = [("make", name)]
    word = graph.words(name, slot_name)[k]
    slot = [row for row in graph.schema.slots(graph.class_of(name)) if row[0] == slot_name][0]
    if isinstance(word, str):
        found.extend(_needed_for_word(slot, word))
    if slot[2] == "row" and k > 0:
        found.append(("put", name, slot_name, k - 1))
    return found


def _needed_by_claim(graph, name):
    class_name = graph.class_of(name)
    read = graph.schema.reads(class_name)
    found = [("make", name)] + [("ready", other) for other in hashes(graph, name)]
    for slot in graph.schema.slots(class_name):
        if slot[1] == "later" and slot[0] in read:
            found.extend(puts_into(graph, name, slot[0]))
    return found


def _needed_for_word(slot, word):
    if slot[2] == "set":
        return [("make", word), ("ready", word)]
    return [("make", word)]
