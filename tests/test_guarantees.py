"""The guarantees of point [2] over the whole program, for schemas and graphs as large as point [5] lets them be."""

import collections
import random
import unittest

from halfbuilt.alike import is_same, same
from halfbuilt.depth import calm, early, order, settled
from halfbuilt.desk import Desk
from halfbuilt.editing import Editor, carried
from halfbuilt.errors import BuildError, NoOrder
from halfbuilt.every import decided, is_ranks, kinds
from halfbuilt.graphs import Graph, endless, is_sound, reached
from halfbuilt.journals import first_wrong, journal_of, replayed
from halfbuilt.plans import is_cycle, is_plan, plan
from halfbuilt.repairs import later, repairs
from halfbuilt.schemas import Schema
from halfbuilt.streams import depth_stream, read, stream_of
from halfbuilt.texts import graph_text, read_graph, read_schema, schema_text
from tests import reference

NAMES = ["p" + letter for letter in "abcdefghijklmnopqrstuvwx"]


def large_schema(rng, likely, first):
    """A schema of four classes with four slots each; a slot is filled in first with this likelihood."""
    rows = []
    for name in "abcd":
        slots = []
        for slot_name in rng.sample("uvwxyz", 4):
            targets = tuple(target for target in "abcd" if rng.random() < likely)
            when = "first" if rng.random() < first else "later"
            slots.append((slot_name, when, rng.choice(["one", "row", "set"]), ("", *targets)))
        read_slots = tuple(sorted(slot[0] for slot in slots if rng.random() < 0.4))
        rows.append((name, tuple(slots), rng.choice(["own", read_slots, read_slots])))
    return Schema(rows)


def large_graph(rng, schema, ends, made):
    """A graph of 24 objects; if ends is true, hashes lead only further behind, and if made is true, first words do."""
    classes = {name: rng.choice(schema.names) for name in NAMES}
    objects = {}
    for at, name in enumerate(NAMES):
        contents = []
        for slot in schema.slots(classes[name]):
            behind = (made and slot[1] == "first") or (ends and slot[0] in schema.reads(classes[name]))
            words = [other for other in NAMES[at + 1 if behind else 0:] if classes[other] in slot[3]]
            words = [rng.randint(-999, 999), *rng.sample(words, min(len(words), 6))]
            chosen = rng.sample(words, min(len(words), rng.choice([0, 1, 2, 4])))
            if slot[2] == "one":
                contents.append(words[-1])
            elif slot[2] == "row":
                contents.append(tuple(chosen))
            else:
                contents.append(tuple(sorted(chosen, key=lambda word: (isinstance(word, str), word))))
        objects[name] = (classes[name], tuple(contents))
    return Graph(schema, objects)


class GuaranteesTest(unittest.TestCase):
    def drawn(self, seed, many, made=1):
        """Triples of the random source, a schema and a sound graph; in each graph, or each second or third one (made),
        first words lead only further behind."""
        rng = random.Random(seed)
        found = []
        for at in range(many):
            schema = large_schema(rng, (0.15, 0.3, 0.6)[at % 3], (0.0, 0.1, 0.3)[at % 5 % 3])
            graph = large_graph(rng, schema, at % 4 != 3, at % made == 0)
            if is_sound(graph):
                found.append((rng, schema, graph))
        self.assertGreater(len(found), many // 2)
        return found

    def test_soundness(self):
        rng = random.Random(1)
        counts = collections.Counter()
        for at in range(60):
            graph = large_graph(rng, large_schema(rng, 0.3, 0.1), at % 2, True)
            self.assertIs(is_sound(graph), reference.is_sound(graph))
            self.assertIs(endless(graph) is None, is_sound(graph))
            counts[is_sound(graph)] += 1
        self.assertGreater(min(counts[True], counts[False]), 5)

    def test_plans_and_cycles(self):
        counts = collections.Counter()
        for _, schema, graph in self.drawn(2, 60, made=2):
            word, shown = plan(graph)
            counts[word, decided(schema)[0]] += 1
            self.assertIs(is_plan(graph, shown), word == "plan")
            self.assertIs(is_cycle(graph, shown), word == "cycle")
            if word == "plan":
                self.assertTrue(reference.is_plan(graph, shown) and sorted(shown) == reference.all_events(graph))
            else:
                needs = reference.all_needs(graph)
                self.assertTrue(all(after in needs[before] for before, after in zip(shown, shown[1:] + shown[:1])))
        self.assertEqual(counts["cycle", "good"], 0)
        self.assertGreater(min(counts["plan", "good"], counts["plan", "bad"], counts["cycle", "bad"]), 2, counts)

    def test_all_graphs_of_a_schema(self):
        for _, schema, graph in self.drawn(3, 60):
            answer = decided(schema)
            if answer[0] == "good":
                self.assertTrue(is_ranks(schema, answer[1]))
                self.assertEqual(list(answer[1]), kinds(schema))
                self.assertEqual(repairs(schema), [()])
            else:
                self.assertTrue(is_cycle(answer[1], answer[2]) and is_sound(answer[1]))
                for pairs in repairs(schema):
                    self.assertEqual(decided(later(schema, pairs))[0], "good")
                    # The graph can be built then.
                    self.assertEqual(plan(Graph(later(schema, pairs), graph.objects))[0], "plan")

    def test_depth_first(self):
        counts = collections.Counter()
        for rng, schema, graph in self.drawn(4, 80):
            answer = calm(schema)
            roots = rng.sample(NAMES, 3)
            events, uses = reference.depth_first(graph, roots)
            self.assertEqual((order(graph, roots), early(graph, roots)), (events, uses))
            counts[answer[0], bool(uses)] += 1
            if answer[0] == "early":
                self.assertTrue(early(answer[1], answer[2]))
            if calm(settled(schema))[0] != "calm":
                self.assertNotEqual(answer[0], "calm")
        self.assertEqual(counts["calm", True], 0)
        self.assertGreater(min(counts["calm", False], counts["early", True] + counts["bad", True]), 2, counts)

    def test_streams(self):
        counts = collections.Counter()
        for rng, schema, graph in self.drawn(5, 60, made=3):
            roots = rng.sample(NAMES, 2)
            for ask in (stream_of, depth_stream):
                try:
                    stream = ask(graph, roots)
                except NoOrder:
                    counts[ask.__name__, False] += 1
                    continue
                counts[ask.__name__, True] += 1
                self.assertLessEqual(len(stream), 2000)
                found, found_roots = read(schema, stream)
                self.assertEqual(len(found.names), len(reached(graph, roots)))
                images = same(graph, roots, found, found_roots)
                self.assertTrue(is_same(graph, roots, found, found_roots, images))
                self.assertEqual(reference.read_stream(schema, stream), (found.objects, found_roots))
        self.assertGreater(min(counts.values()), 2)
        self.assertEqual(len(counts), 4)

    def test_changes(self):
        for rng, schema, graph in self.drawn(6, 40):
            editor, twin = Editor(schema), Editor(schema)
            for _ in range(10):
                name = rng.choice(schema.names)
                slots = [slot[0] for slot in editor.schema.slots(name)] or ["z"]
                edit = rng.choice([("when", name, rng.choice(slots), "later"), ("drop", name, rng.choice(slots)),
                                   ("move", name, rng.choice(slots), rng.randrange(4)), ("reads", name, "own"),
                                   ("add", name, 0, ("new", "later", "row", schema.names))])
                before = editor.schema
                try:
                    editor.do(edit)
                except BuildError as error:
                    with self.assertRaises(type(error)):
                        carried(graph, edit)
                    self.assertEqual(editor, twin)
                else:
                    graph = carried(graph, edit)
                    self.assertEqual(graph.schema, editor.schema)
                    # What takes demands away leaves good schemas good.
                    if decided(before)[0] == "good" and edit[0] in ("when", "drop", "move"):
                        self.assertEqual(decided(editor.schema)[0], "good")
                    twin = editor.twin()
            journal = journal_of(editor)
            self.assertIsNone(first_wrong(schema, journal))
            self.assertEqual(replayed(schema, journal), editor)
            self.assertEqual(read_schema(schema_text(editor.schema)), editor.schema)
            self.assertEqual(read_graph(editor.schema, graph_text(graph)), graph)
            self.assertEqual(Desk(editor.schema).say("good") == "yes", decided(editor.schema)[0] == "good")

    def test_equal_arguments_have_equal_answers(self):
        for rng, schema, graph in self.drawn(7, 20):
            other = Schema(list(schema.classes))
            keys = rng.sample(NAMES, 24)
            turned = Graph(other, {name: graph.objects[name] for name in keys})
            self.assertEqual(turned, graph)
            for ask in (decided, calm, repairs, schema_text):
                self.assertEqual(ask(schema), ask(other))
            for ask in (plan, graph_text, endless):
                self.assertEqual(ask(graph), ask(turned))
            self.assertEqual(early(graph, keys[:2]), early(turned, tuple(keys[:2])))
            self.assertEqual(same(graph, keys[:1], turned, keys[:1]), same(turned, keys[:1], graph, keys[:1]))


if __name__ == "__main__":
    unittest.main()
