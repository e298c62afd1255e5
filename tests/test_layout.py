"""The package as a whole: its files, what they define and import, and their sizes."""

import ast
import pathlib
import unittest

PACKAGE = pathlib.Path(__file__).resolve().parent.parent / "halfbuilt"
# In the order of the document: each module uses only modules before it.
MODULES = ["errors", "schemas", "graphs", "plans", "laying", "every", "depth", "repairs", "streams", "alike",
           "editing", "journals", "texts", "desk"]
DEFINED = {
    "errors": ["BuildError", "BadSchema", "BadGraph", "NoName", "NotSound", "NoOrder", "BadRoots", "BadStream",
               "BadEdit", "BadJournal", "BadText"],
    "schemas": ["is_name", "Schema"],
    "graphs": ["Graph", "hashes", "members", "is_sound", "endless", "reached"],
    "plans": ["events", "needed", "plan", "is_plan", "is_cycle"],
    "laying": [],
    "every": ["kinds", "decided", "is_ranks"],
    "depth": ["order", "early", "calm", "settled"],
    "repairs": ["later", "repairs"],
    "streams": ["read", "stream_of", "depth_stream"],
    "alike": ["same", "is_same"],
    "editing": ["Editor", "carried"],
    "journals": ["journal_of", "first_wrong", "replayed"],
    "texts": ["schema_text", "graph_text", "read_schema", "read_graph"],
    "desk": ["Desk", "answers"],
}
METHODS = {
    "Schema": ["__init__", "__eq__", "classes", "names", "slots", "reads", "grounded"],
    "Graph": ["__init__", "__eq__", "schema", "objects", "names", "words"],
    "Editor": ["__init__", "__eq__", "schema", "do", "do_all", "attempt", "log", "twin"],
    "Desk": ["__init__", "say"],
}
# What the rules of the language leave out altogether.
LEFT_OUT = (ast.GeneratorExp, ast.Div, ast.Global, ast.AsyncFunctionDef, ast.Import)


def text_of(module):
    return (PACKAGE / f"{module}.py").read_text(encoding="ascii")


def tree_of(module):
    return ast.parse(text_of(module))


class LayoutTest(unittest.TestCase):
    def test_files(self):
        files = sorted(path.name for path in PACKAGE.iterdir() if path.name != "__pycache__")
        self.assertEqual(files, sorted(["__init__.py", *(f"{module}.py" for module in MODULES)]))

    def test_init_defines_nothing(self):
        rows = ast.parse(text_of("__init__")).body
        self.assertTrue(all(isinstance(row, ast.Expr) and isinstance(row.value, ast.Constant) for row in rows))

    def test_interface_is_defined_in_its_file(self):
        for module in MODULES:
            tree = tree_of(module)
            defined = {row.name: row for row in tree.body if isinstance(row, (ast.FunctionDef, ast.ClassDef))}
            for name in DEFINED[module]:
                self.assertIn(name, defined)
            for name in set(METHODS) & set(defined):
                methods = [row.name for row in defined[name].body if isinstance(row, ast.FunctionDef)]
                for method in METHODS[name]:
                    self.assertIn(method, methods)

    def test_imports(self):
        for at, module in enumerate(MODULES):
            for row in ast.walk(tree_of(module)):
                if isinstance(row, ast.ImportFrom):
                    package, _, name = row.module.partition(".")
                    self.assertEqual(package, "halfbuilt")
                    self.assertIn(name, MODULES[:at])

    def test_sizes(self):
        for module in ["__init__", *MODULES]:
            rows = text_of(module).split("\n")
            self.assertLessEqual(len(rows), 399)
            for row in rows:
                self.assertLessEqual(len(row), 120)
                self.assertNotIn("\t", row)
            for part in ast.walk(tree_of(module)):
                if isinstance(part, ast.FunctionDef):
                    self.assertLessEqual(part.end_lineno - part.lineno + 1, 40)

    def test_what_is_left_out(self):
        for module in MODULES:
            for part in ast.walk(tree_of(module)):
                self.assertNotIsInstance(part, LEFT_OUT)
                if isinstance(part, ast.Constant):
                    self.assertNotIsInstance(part.value, (float, complex))
                    self.assertNotIn("%", str(part.value))


if __name__ == "__main__":
    unittest.main()
