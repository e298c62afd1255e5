"""Values and schemas that several tests use."""

from halfbuilt.schemas import Schema


def deep(inner):
    """A value that is 20 levels deep, with lists, tuples and dicts in turn."""
    for level in range(20):
        inner = ([inner], (inner,), {"a": inner})[level % 3]
    return inner


# Any values by point [3] of the document; none of them is a name of an object or class of a test.
ODD_VALUES = [
    None, True, False, 0, 1, -1, 999, 1000, 10 ** 99, -(10 ** 99),
    "", " ", "A", "#", "own ", "a1", "a_b", "zzzzzzz", "a\n", "two words",
    [], (), {}, [1], ["zz"], ("zz",), {"zz": 1}, {1: ["zz"]}, [[]], ([],), ({},), [{}], ((), [{"a": [None]}]),
    {("a", 1): {}, None: [], True: ()}, deep(0), deep([]), deep("zz"), deep({}),
]

# The schemas of the document's examples.
PAIRS = Schema([
    ("box", (("items", "later", "set", ("", "pair")),), "own"),
    ("pair", (("left", "first", "one", ("", "box")), ("tag", "later", "one", ("",))), ("left", "tag")),
])
ROWS = Schema([("t", (("of", "first", "row", ("t",)),), "own")])
CELLS = Schema([("cell", (("value", "later", "one", ("",)),), "own")])
