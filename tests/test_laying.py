"""Ways among kinds, and the graphs that are laid along them."""

import unittest

from halfbuilt.laying import laid, laid_name, shortest_way, steps_from
from halfbuilt.schemas import Schema
from tests import reference

BOXES = Schema([
    ("box", (("has", "first", "set", ("", "never", "node")), ("by", "later", "row", ("", "box"))), "own"),
    ("never", (("to", "later", "one", ("never",)),), ("to",)),
    ("node", (("at", "later", "one", ("box", "never")), ("in", "first", "set", ("node",)),
              ("to", "later", "row", ("box",))), ("to",)),
])


class LayingTest(unittest.TestCase):
    def steps(self, kind):
        return [(slot[0], is_read, other) for slot, is_read, other in steps_from(BOXES, kind)]

    def test_steps(self):
        box = [("has", False, ("ready", "node")), ("by", False, ("make", "box"))]
        self.assertEqual(self.steps(("make", "box")), box)
        self.assertEqual(self.steps(("ready", "box")), box)
        self.assertEqual(self.steps(("make", "never")), [("to", False, ("make", "never"))])
        node = [("at", False, ("make", "box")), ("at", False, ("make", "never")), ("in", False, ("ready", "node"))]
        self.assertEqual(self.steps(("make", "node")), [*node, ("to", False, ("make", "box"))])
        self.assertEqual(self.steps(("ready", "node")), [*node, ("to", True, ("ready", "box"))])

    def test_shortest_ways(self):
        steps = {"a": [("x", "b"), ("y", "c")], "b": [("z", "d")], "c": [("x", "a"), ("w", "e")], "d": [("y", "e")],
                 "e": []}
        self.assertEqual(shortest_way(steps, "a", "a"), [])
        self.assertEqual(shortest_way(steps, "a", "e"), [("a", "y"), ("c", "w")])
        self.assertEqual(shortest_way(steps, "c", "d"), [("c", "x"), ("a", "x"), ("b", "z")])
        self.assertIs(shortest_way(steps, "e", "a"), None)

    def test_laid_graphs(self):
        one, other = laid_name(0), laid_name(1)
        graph = laid(BOXES, [("box", "has"), ("node", "to")], "by")
        self.assertEqual(len(graph.names), 3)
        filled = graph.words(other, "at")[0]
        self.assertEqual(graph.objects, {one: ("box", ((other,), (0,))), other: ("node", (filled, (), (one,))),
                                         filled: ("box", ((), ()))})
        self.assertTrue(reference.is_sound(graph))
        # Nothing is laid that the walk does not lead to.
        self.assertEqual(laid(BOXES, [("box", "by")], None).objects, {one: ("box", ((), (one,)))})


if __name__ == "__main__":
    unittest.main()
