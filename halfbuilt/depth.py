"""The depth-first order of graphs, and whether it uses objects before they are ready."""

from halfbuilt.errors import NoOrder
from halfbuilt.every import decided, kinds
from halfbuilt.graphs import check_roots, in_order, objects_in
from halfbuilt.laying import laid, laid_name, shortest_way, steps_from
from halfbuilt.plans import check_sound, events_behind, needs_of
from halfbuilt.schemas import Schema, has_ground


def order(graph, roots):
    """The list of the events of the depth-first order."""
    check_sound(graph)
    check_roots(graph, roots)
    _check_makes(graph)
    happened = {}
    tasks = [("save", root) for root in roots[::-1]]
    while tasks:
        task = tasks.pop()
        if task[0] == "put":
            happened[task] = True
        elif ("make", task[1]) not in happened:
            if task[0] == "make":
                happened[task] = True
            # What an object brings comes before all tasks that have been waiting.
            tasks.extend(_tasks_behind(graph, task)[::-1])
    return list(happened)


def early(graph, roots):
    """The list of the early uses (object, slot, word) of the depth-first order."""
    ordered = order(graph, roots)
    needs = needs_of(graph)
    happened = {}
    found = []
    for event in ordered:
        for slot_name, word in _members_by(graph, event):
            if not all([other in happened for other in events_behind(needs, ("ready", word))]):
                found.append((event[1], slot_name, word))
        happened[event] = True
    return found


def calm(schema):
    """("calm", None), ("bad", graph, cycle) as decided, or ("early", graph, roots) with early uses."""
    answer = decided(schema)
    if answer[0] == "bad":
        return answer
    chains = _early_chains(schema)
    if not chains:
        return ("calm", None)
    chain, pending = min(chains, key=lambda row: len(row[0]))
    return ("early", laid(schema, chain, pending), (laid_name(0),))


def settled(schema):
    """The schema with the later slots that hashes read in front of the other later slots."""
    return Schema([(name, _settled_slots(schema, name), read) for name, _, read in schema.classes])


def _check_makes(graph):
    firsts = {}
    for name in graph.names:
        firsts[name] = objects_in(graph, name, [slot[0] for slot in _slots_of(graph, name, "first")])
    if len(in_order(firsts)) < len(firsts):
        raise NoOrder("a make needs itself by makes alone")


def _slots_of(graph, name, when):
    return [slot for slot in graph.schema.slots(graph.class_of(name)) if slot[1] == when]


def _tasks_behind(graph, task):
    """What follows at once: to save the first words and to make, or behind the make to save and put the others."""
    name = task[1]
    found = []
    for slot in _slots_of(graph, name, "first" if task[0] == "save" else "later"):
        for k, word in enumerate(graph.words(name, slot[0])):
            if isinstance(word, str):
                found.append(("save", word))
            if slot[1] == "later":
                found.append(("put", name, slot[0], k))
    if task[0] == "save":
        found.append(("make", name))
    return found


def _members_by(graph, event):
    """The list of the pairs (slot, object) by which an event makes objects members."""
    name = event[1]
    if event[0] == "make":
        slots = [slot[0] for slot in _slots_of(graph, name, "first") if slot[2] == "set"]
        uses = [(slot_name, word) for slot_name in slots for word in graph.words(name, slot_name)]
    else:
        slots = [slot[0] for slot in _slots_of(graph, name, "later") if slot[2] == "set"]
        uses = [(event[2], graph.words(name, event[2])[event[3]])] if event[2] in slots else []
    return [use for use in uses if isinstance(use[1], str)]


def _early_chains(schema):
    """The pairs (chain, slot): the shortest chain for each slot with which one begins, and a slot that is pending then.

    A chain is a list of pairs (class, slot), whose last slot leads back to the first class.
    """
    steps = _steps_of_chains(schema)
    found = []
    for name in schema.grounded():
        start = ("ready", name)
        for slot, is_read, other in steps_from(schema, start):
            pending = _pending(schema, name, slot)
            # A chain that is not all read comes back to a ready kind only by a set and slots behind it that are read.
            way = shortest_way(steps, (other, not is_read), (start, True)) if pending else None
            if way is not None:
                found.append(([(name, slot[0])] + [(node[0][1], label) for node, label in way], pending[0]))
    return found


def _steps_of_chains(schema):
    """The steps among the pairs (kind, whether a slot on the way to it was not read), as shortest_way takes them."""
    steps = {}
    for kind in kinds(schema):
        for unread in (False, True):
            found = [(slot[0], (other, unread or not is_read)) for slot, is_read, other in steps_from(schema, kind)]
            steps[(kind, unread)] = found
    return steps


def _pending(schema, name, slot):
    """The slots that the hash of a class reads, and that can have a word that is put in with this slot or after it."""
    if slot[1] == "first":
        return []
    slots = schema.slots(name)
    behind = [row for row in slots[slots.index(slot):] if row[1] == "later" and row[0] in schema.reads(name)]
    return [row[0] for row in behind if has_ground(row[3], schema.grounded())]


def _settled_slots(schema, name):
    read = schema.reads(name)
    laters = [slot for slot in schema.slots(name) if slot[1] == "later"]
    laters = [slot for slot in laters if slot[0] in read] + [slot for slot in laters if slot[0] not in read]
    found = []
    for slot in schema.slots(name):
        found.append(slot if slot[1] == "first" else laters[len([row for row in found if row[1] == "later"])])
    return tuple(found)
