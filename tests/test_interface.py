"""The interface: each function and class is there under its name, in its module, with its arguments as they stand."""

import importlib
import inspect
import unittest

FUNCTIONS = (
    ("names", "is_whole(thing)"),
    ("names", "is_name(thing)"),
    ("orders", "order_of(pairs)"),
    ("orders", "chain(pairs, one, other)"),
    ("orders", "judge(pairs)"),
    ("tables", "table_of(states, inner, pairs)"),
    ("tables", "next_state(table, state, label)"),
    ("tables", "has_end(table, state, label)"),
    ("tables", "usual()"),
    ("nets", "net_of(scopes, things, questions)"),
    ("nets", "label_at(net, mark)"),
    ("nets", "telling_at(net, mark)"),
    ("goals", "inside(net, answers, thing)"),
    ("goals", "goal(net, answers, step)"),
    ("ways", "beginnings(net, answers, table, scope, state)"),
    ("ways", "found_ways(net, answers, table, scope, state, name)"),
    ("ways", "owed_ways(net, answers, table, scope, state)"),
    ("worth", "hides(net, table, one, other)"),
    ("worth", "seen_ways(net, table, ways)"),
    ("worth", "hidden_ways(net, table, ways)"),
    ("finds", "find(net, answers, table, question)"),
    ("finds", "trail(net, answers, table, question)"),
    ("walked", "walked(net, answers, table, question)"),
    ("walked", "used(net, answers, table, question)"),
    ("still", "still(net, table)"),
    ("rings", "waits(net, answers, table)"),
    ("rings", "ring_of(net, answers, table)"),
    ("house", "House(net, table)"),
    ("anew", "renamed(net, table, scope, index, name)"),
    ("gaps", "may_stand(net, answers, table, scope, state=0)"),
    ("items", "Item()"),
    ("items", "Part(reach, name, items)"),
    ("items", "Thing(reach, name, of=None)"),
    ("items", "Let(name, of=None)"),
    ("items", "Elder(path)"),
    ("items", "All(path, on=False)"),
    ("items", "One(reach, name, path)"),
    ("items", "Ask(path)"),
    ("laying", "net_by(program)"),
    ("texts", "read(text)"),
    ("texts", "written(program)"),
    ("tabletexts", "read_table(text)"),
    ("tabletexts", "show_table(table)"),
    ("desk", "Desk()"),
)

METHODS = (
    ("house", "House", "tell(self, scope, telling)"),
    ("house", "House", "step(self, scope, step)"),
    ("house", "House", "untell(self, scope, index)"),
    ("house", "House", "unstep(self, scope, index)"),
    ("house", "House", "room(self)"),
    ("house", "House", "thing(self, kind, number)"),
    ("house", "House", "ask(self, scope, path, state=0)"),
    ("house", "House", "net(self)"),
    ("house", "House", "answers(self)"),
    ("house", "House", "gone(self)"),
    ("desk", "Desk", "say(self, row)"),
)


class Interface(unittest.TestCase):
    def test_names_and_arguments(self):
        for module, words in FUNCTIONS:
            name = words.partition("(")[0]
            function = getattr(importlib.import_module("namepaths." + module), name)
            self.assertEqual(name + str(inspect.signature(function)), words)

    def test_methods_and_arguments(self):
        for module, kind, words in METHODS:
            name = words.partition("(")[0]
            method = getattr(getattr(importlib.import_module("namepaths." + module), kind), name)
            self.assertEqual(name + str(inspect.signature(method)), words)


if __name__ == "__main__":
    unittest.main()
