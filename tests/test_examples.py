"""The sessions of the document's examples, written as they stand there."""

import unittest

from halfbuilt.errors import BuildError

SESSIONS = [r"""
>>> from halfbuilt.schemas import Schema
>>> schema = Schema([("box", (("items", "later", "set", ("", "pair")),), "own"), ("pair", (("left", "first", "one", ("", "box")), ("tag", "later", "one", ("",))), ("left", "tag"))])
>>> (schema.names, schema.reads("pair"), schema.grounded())
(('box', 'pair'), ('left', 'tag'), ['box', 'pair'])
""", r"""
>>> from halfbuilt.schemas import Schema
>>> Schema([])
raises BadSchema(name=None)
""", r"""
>>> from halfbuilt.graphs import Graph, hashes, is_sound, members
>>> from halfbuilt.schemas import Schema
>>> schema = Schema([("box", (("items", "later", "set", ("", "pair")),), "own"), ("pair", (("left", "first", "one", ("", "box")), ("tag", "later", "one", ("",))), ("left", "tag"))])
>>> graph = Graph(schema, {"b": ("box", (("p",),)), "p": ("pair", ("b", 7))})
>>> (hashes(graph, "p"), members(graph), is_sound(graph))
(['b'], ['p'], True)
""", r"""
>>> from halfbuilt.graphs import Graph
>>> from halfbuilt.plans import needed, plan
>>> from halfbuilt.schemas import Schema
>>> schema = Schema([("box", (("items", "later", "set", ("", "pair")),), "own"), ("pair", (("left", "first", "one", ("", "box")), ("tag", "later", "one", ("",))), ("left", "tag"))])
>>> graph = Graph(schema, {"b": ("box", (("p",),)), "p": ("pair", ("b", 7))})
>>> (needed(graph, ("put", "b", "items", 0)), plan(graph))
([('make', 'b'), ('make', 'p'), ('ready', 'p')], ('plan', (('make', 'b'), ('make', 'p'), ('put', 'p', 'tag', 0), ('put', 'b', 'items', 0))))
""", r"""
>>> from halfbuilt.graphs import Graph
>>> from halfbuilt.plans import plan
>>> from halfbuilt.schemas import Schema
>>> rows = Schema([("t", (("of", "first", "row", ("t",)),), "own")])
>>> plan(Graph(rows, {"x": ("t", (("x",),))}))
('cycle', (('make', 'x'),))
""", r"""
>>> from halfbuilt.every import decided
>>> from halfbuilt.schemas import Schema
>>> schema = Schema([("box", (("items", "later", "set", ("", "pair")),), "own"), ("pair", (("left", "first", "one", ("", "box")), ("tag", "later", "one", ("",))), ("left", "tag"))])
>>> rows = Schema([("t", (("of", "first", "row", ("t",)),), "own")])
>>> (decided(schema)[0], decided(rows)[0])
('good', 'bad')
""", r"""
>>> from halfbuilt.depth import early
>>> from halfbuilt.graphs import Graph
>>> from halfbuilt.schemas import Schema
>>> odd = Schema([("box", (("items", "later", "set", ("pair",)),), "own"), ("pair", (("back", "later", "one", ("box",)), ("tag", "later", "one", ("",))), ("tag",))])
>>> graph = Graph(odd, {"b": ("box", (("p",),)), "p": ("pair", ("b", 7))})
>>> (early(graph, ["p"]), early(graph, ["b"]))
([('b', 'items', 'p')], [])
""", r"""
>>> from halfbuilt.depth import calm, settled
>>> from halfbuilt.schemas import Schema
>>> odd = Schema([("box", (("items", "later", "set", ("pair",)),), "own"), ("pair", (("back", "later", "one", ("box",)), ("tag", "later", "one", ("",))), ("tag",))])
>>> (calm(odd)[0], calm(settled(odd)))
('early', ('calm', None))
""", r"""
>>> from halfbuilt.repairs import repairs
>>> from halfbuilt.schemas import Schema
>>> schema = Schema([("box", (("items", "later", "set", ("", "pair")),), "own"), ("pair", (("left", "first", "one", ("", "box")), ("tag", "later", "one", ("",))), ("left", "tag"))])
>>> rows = Schema([("t", (("of", "first", "row", ("t",)),), "own")])
>>> (repairs(schema), repairs(rows))
([()], [(('t', 'of'),)])
""", r"""
>>> from halfbuilt.schemas import Schema
>>> from halfbuilt.streams import read
>>> cells = Schema([("cell", (("value", "later", "one", ("",)),), "own")])
>>> graph, roots = read(cells, [("make", "cell"), ("number", 5), ("put", "value"), ("root",)])
>>> (graph.objects, roots)
({'oa': ('cell', (5,))}, ('oa',))
""", r"""
>>> from halfbuilt.schemas import Schema
>>> from halfbuilt.streams import read
>>> cells = Schema([("cell", (("value", "later", "one", ("",)),), "own")])
>>> read(cells, [("make", "cell"), ("put", "value")])
raises BadStream(index=1)
""", r"""
>>> from halfbuilt.alike import same
>>> from halfbuilt.graphs import Graph
>>> from halfbuilt.schemas import Schema
>>> schema = Schema([("box", (("items", "later", "set", ("", "pair")),), "own"), ("pair", (("left", "first", "one", ("", "box")), ("tag", "later", "one", ("",))), ("left", "tag"))])
>>> graph = Graph(schema, {"b": ("box", (("p",),)), "p": ("pair", ("b", 7))})
>>> other = Graph(schema, {"x": ("box", (("y",),)), "y": ("pair", ("x", 7))})
>>> (same(graph, ["b"], other, ["x"]), same(graph, ["b"], other, ["y"]))
({'b': 'x', 'p': 'y'}, None)
""", r"""
>>> from halfbuilt.editing import Editor
>>> from halfbuilt.schemas import Schema
>>> rows = Schema([("t", (("of", "first", "row", ("t",)),), "own")])
>>> editor = Editor(rows)
>>> (editor.do(("when", "t", "of", "later")), editor.do(("undo",)), editor.log())
('good', 'bad', [])
""", r"""
>>> from halfbuilt.schemas import Schema
>>> from halfbuilt.texts import schema_text
>>> cells = Schema([("cell", (("value", "later", "one", ("",)),), "own")])
>>> schema_text(cells)
'class cell own\n  value later one #\n'
""", r"""
>>> from halfbuilt.desk import Desk
>>> from halfbuilt.schemas import Schema
>>> rows = Schema([("t", (("of", "first", "row", ("t",)),), "own")])
>>> desk = Desk(rows)
>>> [desk.say("good"), desk.say("repairs"), desk.say("when t of later"), desk.say("good"), desk.say("hello")]
['no', 't.of', 'good', 'yes', 'unknown']
"""]


def shown(row, names):
    """What a row of a session shows: the result, or the error with its attribute."""
    try:
        return repr(eval(row, names))
    except BuildError as error:
        parts = ", ".join(f"{name}={worth!r}" for name, worth in vars(error).items())
        return f"raises {type(error).__name__}({parts})"


class ExamplesTest(unittest.TestCase):
    def test_sessions(self):
        for session in SESSIONS:
            names = {}
            rows = session.strip().split("\n")
            for row, answer in zip(rows, rows[1:] + [">>> "]):
                if row.startswith(">>> ") and answer.startswith(">>> "):
                    exec(row[4:], names)
                elif row.startswith(">>> "):
                    self.assertEqual(shown(row[4:], names), answer)


if __name__ == "__main__":
    unittest.main()
