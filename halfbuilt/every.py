"""All graphs of a schema: ranks if they have plans, otherwise a graph that has none."""

from halfbuilt.laying import laid, laid_name, shortest_way, steps_from
from halfbuilt.schemas import is_whole

HIGHEST_RANK = 99


def kinds(schema):
    """The ascending list of all kinds."""
    return sorted([("make", name) for name in schema.names] + [("ready", name) for name in schema.grounded()])


def decided(schema):
    """("good", ranks), or ("bad", graph, cycle) with a cycle of the fewest objects."""
    ranks = _least_ranks(schema)
    if is_ranks(schema, ranks):
        return ("good", ranks)
    ring = _shortest_ring(schema)
    graph = laid(schema, [(kind[1], slot_name) for kind, slot_name in ring], None)
    return ("bad", graph, _cycle_along(schema, ring))


def is_ranks(schema, thing):
    """Whether any value is ranks."""
    all_kinds = kinds(schema)
    if not isinstance(thing, dict) or len(thing) != len(all_kinds):
        return False
    if not all([kind in thing and is_whole(thing[kind], 0, HIGHEST_RANK) for kind in all_kinds]):
        return False
    return all([thing[kind] >= _rank_for(_needs_of_kind(schema, kind), thing) for kind in all_kinds])


def _needs_of_kind(schema, kind):
    """The list of triples (slot, 1 if strictly and otherwise 0, the kind that is needed)."""
    steps = [step for step in steps_from(schema, kind) if step[1] or step[0][1] == "first"]
    return [(slot[0], 0 if is_read else 1, other) for slot, is_read, other in steps]


def _rank_for(needs, ranks):
    """The least rank of a kind with these needs."""
    return max([ranks[other] + strict for _, strict, other in needs], default=0)


def _least_ranks(schema):
    """The least ranks; if there are no ranks, a dict that is none."""
    all_kinds = kinds(schema)
    needs = {kind: _needs_of_kind(schema, kind) for kind in all_kinds}
    ranks = {kind: 0 for kind in all_kinds}
    # No way without a ring is longer than this.
    for _ in all_kinds:
        ranks = {kind: _rank_for(needs[kind], ranks) for kind in needs}
    return ranks


def _shortest_ring(schema):
    """The shortest list of pairs (kind, slot), each leading to the next one, that has a strict need; [] if none has."""
    needs = {kind: _needs_of_kind(schema, kind) for kind in kinds(schema)}
    steps = {kind: [(slot_name, other) for slot_name, _, other in needs[kind]] for kind in needs}
    rings = []
    for kind in needs:
        for slot_name, strict, other in needs[kind]:
            way = shortest_way(steps, other, kind) if strict == 1 else None
            if way is not None:
                rings.append([(kind, slot_name), *way])
    return min(rings, key=len, default=[])


def strict_slots(schema):
    """The ascending list of the pairs (class, slot) with the strict needs of a ring of kinds; [] for a good schema."""
    return sorted({(kind[1], slot_name) for kind, slot_name in _shortest_ring(schema)
                   if kind[0] == "make" or slot_name not in schema.reads(kind[1])})


def _cycle_along(schema, ring):
    """The cycle in the graph that is laid along a ring of kinds."""
    found = []
    for place, (kind, slot_name) in enumerate(ring):
        found.append((kind[0], laid_name(place)))
        # An object that is ready needs by a slot that its hash does not read only what its make needs.
        if kind[0] == "ready" and slot_name not in schema.reads(kind[1]):
            found.append(("make", laid_name(place)))
    return tuple(found)
