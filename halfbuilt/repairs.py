"""Slots that are filled in later, and all minimal sets of slots that make a schema good in this way."""

from halfbuilt.errors import BadSchema
from halfbuilt.every import strict_slots
from halfbuilt.schemas import Schema


def later(schema, slots):
    """The schema in which these first slots, pairs (class, slot), are filled in later."""
    if not isinstance(slots, (list, tuple)):
        raise BadSchema(0)
    firsts = [(name, slot[0]) for name, rows, _ in schema.classes for slot in rows if slot[1] == "first"]
    for index, pair in enumerate(slots):
        if pair not in firsts or pair in slots[:index]:
            raise BadSchema(index)
    classes = []
    for name, rows, read in schema.classes:
        changed = [(slot[0], "later", *slot[2:]) if (name, slot[0]) in slots else slot for slot in rows]
        classes.append((name, tuple(changed), read))
    return Schema(classes)


def repairs(schema):
    """The list of all minimal sets of first slots that make a schema good if they are filled in later."""
    sets = [()]
    # A schema is bad by a ring of kinds, and only slots of its strict needs break it: each good set has one of them.
    rings = {(): strict_slots(schema)}
    while any([rings[slots] for slots in sets]):
        ring = [rings[slots] for slots in sets if rings[slots]][0]
        sets = _with_one_of(sets, ring)
        for slots in sets:
            if slots not in rings:
                rings[slots] = strict_slots(later(schema, slots))
    return sorted(sets, key=lambda slots: (len(slots), slots))


def _with_one_of(sets, ring):
    """The minimal sets that contain one of these sets and a slot of a ring."""
    kept = [slots for slots in sets if any([pair in ring for pair in slots])]
    grown = [tuple(sorted([*slots, pair])) for slots in sets for pair in ring]
    return kept + [slots for slots in grown if not any([_contains(slots, other) for other in kept])]


def _contains(slots, other):
    return all([pair in slots for pair in other])
