"""The interface: each function is there under its name, in its module, with its arguments as they stand."""

import importlib
import inspect
import unittest

FUNCTIONS = (
    ("names", "is_whole(thing)"),
    ("names", "is_name(thing)"),
    ("orders", "order_of(pairs)"),
    ("orders", "chain(pairs, one, other)"),
    ("orders", "judge(pairs)"),
    ("tables", "table_of(states, inner, pairs)"),
    ("tables", "next_state(table, state, label)"),
    ("tables", "has_end(table, state, label)"),
    ("tables", "usual()"),
    ("nets", "net_of(scopes, things, questions)"),
    ("nets", "label_at(net, mark)"),
    ("nets", "telling_at(net, mark)"),
    ("goals", "inside(net, answers, thing)"),
    ("goals", "goal(net, answers, step)"),
    ("ways", "beginnings(net, answers, table, scope, state)"),
    ("ways", "found_ways(net, answers, table, scope, state, name)"),
    ("ways", "owed_ways(net, answers, table, scope, state)"),
    ("worth", "hides(net, table, one, other)"),
    ("worth", "seen_ways(net, table, ways)"),
    ("worth", "hidden_ways(net, table, ways)"),
    ("finds", "find(net, answers, table, question)"),
    ("finds", "trail(net, answers, table, question)"),
    ("walked", "walked(net, answers, table, question)"),
    ("walked", "used(net, answers, table, question)"),
    ("still", "still(net, table)"),
    ("rings", "waits(net, answers, table)"),
    ("rings", "ring_of(net, answers, table)"),
)


class Interface(unittest.TestCase):
    def test_names_and_arguments(self):
        for module, words in FUNCTIONS:
            name = words.partition("(")[0]
            function = getattr(importlib.import_module("namepaths." + module), name)
            self.assertEqual(name + str(inspect.signature(function)), words)


if __name__ == "__main__":
    unittest.main()
