"""Points 16 and 17: the scopes that a question walks, the questions that it uses; point 11 for both."""

import copy
import random
import unittest

from namepaths.errors import Tangled
from namepaths.finds import find, trail
from namepaths.nets import net_of
from namepaths.tables import table_of, usual
from namepaths.walked import used, walked
from some_nets import (asking_net, row_of_scopes, some_answer, some_answers, some_step, some_table, some_telling,
                       two_hundred)
from worked_out import looked

PLAIN = ("plain", 0)


def scopes_as_number(scopes):
    return sum(2 ** scope for scope in scopes)


class Parts(unittest.TestCase):
    """Question 0 is asked; the others are there for their answers."""

    def net(self, scopes, things, path, answers, start=(0, 0)):
        questions = [start + (tuple(path.split(".")),)] + [(0, 0, ("y",))] * len(answers)
        return net_of(scopes, things, questions), [None] + list(answers)

    def check(self, scopes, things, path, walks, uses, answers=(), start=(0, 0), table=None):
        net, answers = self.net(scopes, things, path, answers, start)
        table = table or usual()
        kept = copy.deepcopy((net, answers, table))
        self.assertEqual(walked(net, answers, table, 0), scopes_as_number(walks))
        self.assertEqual(used(net, answers, table, 0), uses)
        self.assertEqual((net, answers, table), kept)


class Walked(Parts):
    def test_the_scope_itself(self):
        self.check([([], [])] * 3, [], "x", [0], [])
        self.check([([], [])] * 3, [], "x", [2], [], start=(2, 0))

    def test_it_is_a_sum(self):
        net, answers = self.net(row_of_scopes((1, 1)), [], "x", [])
        self.assertEqual(walked(net, answers, usual(), 0), 7)

    def test_a_scope_come_to_by_two_ways_counts_once(self):
        self.check(row_of_scopes((2, 3)), [], "x", [0, 1, 2], [])

    def test_scopes_that_are_not_come_to(self):
        scopes = [([("own", "to", 1), ("up", "to", 2)], []), ([], []), ([], []), ([("up", "to", 0)], [])]
        self.check(scopes, [], "x", [0, 2], [])
        self.check(scopes, [], "x", [0], [], start=(0, 1))

    def test_hidden_ways_are_walked_too(self):
        scopes = [([("up", "to", 1)], [("own", "x", "thing", 0)]), ([("up", "to", 2)], []), ([], [])]
        self.check(scopes, [PLAIN], "x", [0, 1, 2], [])

    def test_a_scope_with_a_great_number(self):
        scopes = [([], []) for _ in range(39)] + [([("up", "to", 1), ("up", "by", 1)], [])]
        self.check(scopes, [], "x", [1, 39], [1], [("none", 0)], start=(39, 0))
        net, answers = self.net(scopes, [], "x", [None], (39, 0))
        self.assertEqual(walked(net, answers, usual(), 0), 549755813888 + 2)
        net, answers = self.net(row_of_scopes([1] * 39), [], "x", [])
        self.assertEqual(walked(net, answers, usual(), 0), 1099511627775)

    def test_all_names_that_are_looked_for(self):
        scopes = [([("up", "to", 3)], [("own", "a", "thing", 0)]), ([("elder", "to", 2), ("up", "to", 4)], []),
                  ([], [("open", "b", "thing", 1)]), ([], []), ([], []), ([], [])]
        things = [("part", 1), ("part", 5)]
        self.check(scopes, things, "a", [0, 3], [])
        self.check(scopes, things, "a.b", [0, 1, 2, 3], [])
        self.check(scopes, things, "a.b.c", [0, 1, 2, 3, 5], [])

    def test_one_that_ends_early(self):
        scopes = [([], [("own", "a", "thing", 0), ("own", "b", "thing", 1), ("own", "b", "thing", 0)]), ([], [])]
        for path, walks in (("x.a", [0]), ("b.a", [0]), ("a.x", [0, 1]), ("a.x.y", [0, 1])):
            self.check(scopes, [("part", 1), PLAIN], path, walks, [])

    def test_steps_by_questions(self):
        scopes = [([("up", "by", 1), ("elder", "by", 2)], []), ([], []), ([], [])]
        things = [("part", 1), ("part", 2), PLAIN]
        self.check(scopes, things, "x", [0], [1, 2], [None, None])
        self.check(scopes, things, "x", [0, 1], [1, 2], [("thing", 0), None])
        self.check(scopes, things, "x", [0, 1, 2], [1, 2], [("thing", 0), ("thing", 1)])
        self.check(scopes, things, "x", [0], [1, 2], [("thing", 2), ("torn", 0)])


class Used(Parts):
    def test_none(self):
        self.check([([], [])], [], "x", [0], [], [None])

    def test_steps_by_whose_label_the_state_goes(self):
        scopes = [([("elder", "by", 4), ("own", "by", 3), ("up", "by", 2), ("up", "to", 0)], [])]
        self.check(scopes, [], "x", [0], [2, 4], [None] * 4)
        self.check(scopes, [], "x", [0], [4], [None] * 4, start=(0, 1))
        self.check(scopes, [], "x", [0], [2], [None] * 4, start=(0, 2))

    def test_whatever_they_are_answered_by(self):
        scopes = [([("elder", "by", 1)], [])]
        for answer in (None, ("none", 0), ("torn", 0), ("thing", 0), ("thing", 1)):
            self.check(scopes, [PLAIN, ("part", 0)], "x", [0], [1], [answer])

    def test_steps_that_lead_back(self):
        scopes = [([("up", "to", 1)], []), ([("up", "by", 1)], [])]
        self.check(scopes, [("part", 0)], "x", [0, 1], [1], [("thing", 0)])

    def test_steps_of_hidden_ways(self):
        scopes = [([("up", "by", 1)], [("own", "x", "thing", 0)])]
        self.check(scopes, [PLAIN], "x", [0], [1], [None])

    def test_each_once_and_sorted(self):
        scopes = [([("up", "by", 2), ("elder", "by", 2), ("up", "to", 1), ("up", "by", 1)], [("own", "x", "by", 2)]),
                  ([("up", "by", 2)], [("own", "x", "by", 1)])]
        self.check(scopes, [], "x", [0, 1], [1, 2], [None, None])
        self.check([([("up", "by", number) for number in (7, 6, 5, 4, 3, 2, 1, 0)],
                     [("own", "x", "by", number) for number in (11, 10, 9, 8)])],
                   [], "x", [0], list(range(12)), [None] * 11)

    def test_it_may_use_itself(self):
        self.check([([("up", "by", 0)], [])], [], "x", [0], [0])
        self.check([([], [("own", "x", "by", 0)])], [], "x", [0], [0])
        self.check([([], [("own", "x", "thing", 0)])], [("sort", 0)], "x.y", [0], [0])

    def test_a_step_answered_by_a_thing_with_a_sort(self):
        scopes = [([("elder", "by", 1)], []), ([], [])]
        things = [("sort", 2), ("part", 1), ("sort", 3)]
        self.check(scopes, things, "x", [0], [1, 2], [("thing", 0), None, None])
        self.check(scopes, things, "x", [0, 1], [1, 2], [("thing", 0), ("thing", 1), None])
        # The sort's thing has a sort itself: its question isn't used.
        self.check(scopes, things, "x", [0], [1, 2], [("thing", 0), ("thing", 2), ("thing", 1)])
        self.check(scopes, things, "x", [0], [1], [("none", 0), None, None])

    def test_a_step_answered_by_a_thing_with_a_sort_that_isnt_gone(self):
        self.check([([("own", "by", 1)], [])], [("sort", 2)], "x", [0], [], [("thing", 0), None])

    def test_tellings_at_the_ends_of_found_ways(self):
        scopes = [([("up", "to", 1)], [("own", "x", "by", 3), ("own", "y", "by", 4), ("up", "x", "by", 5)]),
                  ([], [("own", "x", "by", 1)])]
        # The hidden one of scope 1 too.
        self.check(scopes, [], "x", [0, 1], [1, 3], [None] * 5)

    def test_a_telling_answered_by_a_thing_with_a_sort(self):
        # At the last name what is in the thing isn't asked.
        self.check([([], [("own", "x", "by", 1)])], [("sort", 2)], "x", [0], [1], [("thing", 0), None])
        self.check([([], [("own", "x", "by", 1)])], [("sort", 2)], "x.y", [0], [1, 2], [("thing", 0), None])

    def test_a_sort_that_is_gone_on_by(self):
        scopes = [([], [("own", "a", "thing", 0)]), ([("elder", "by", 2)], [])]
        things = [("sort", 1), ("part", 1), ("sort", 2)]
        self.check(scopes, things, "a", [0], [], [None, None])
        self.check(scopes, things, "a.x", [0], [1], [None, None])
        self.check(scopes, things, "a.x", [0, 1], [1, 2], [("thing", 1), None])
        self.check(scopes, things, "a.x", [0], [1], [("thing", 2), None])
        self.check(scopes, things, "a.x", [0], [1], [("none", 0), None])

    def test_a_sort_that_is_torn_isnt_asked(self):
        scopes = [([], [("own", "a", "thing", 0), ("own", "a", "thing", 1)])]
        self.check(scopes, [("sort", 1), ("sort", 2)], "a.x", [0], [], [None, None])

    def test_names_that_are_not_looked_for(self):
        scopes = [([], [("own", "a", "thing", 0), ("own", "x", "by", 1)])]
        self.check(scopes, [PLAIN], "a.x", [0], [], [None])
        self.check(scopes, [PLAIN], "y.x", [0], [], [None])

    def test_names_ahead_of_the_last(self):
        scopes = [([], [("own", "a", "by", 3)]), ([("elder", "by", 1)], [("open", "b", "thing", 1)]),
                  ([], [("open", "c", "by", 2)])]
        things = [("part", 1), ("part", 2), PLAIN]
        answers = [("none", 0), ("thing", 2), ("thing", 0)]
        self.check(scopes, things, "a.b.c", [0, 1, 2], [1, 2, 3], answers)
        self.check(scopes, things, "a.b", [0, 1], [1, 3], answers)
        self.check(scopes, things, "a", [0], [3], answers)

    def test_behind_a_dot_the_state_is_inner(self):
        scopes = [([], [("own", "a", "thing", 0)]), ([("up", "by", 1), ("elder", "by", 2)], [])]
        self.check(scopes, [("part", 1)], "a.x", [0, 1], [2], [("none", 0)] * 2)
        inner = table_of(usual()[0], 2, [])
        self.check(scopes, [("part", 1)], "a.x", [0, 1], [1], [("none", 0)] * 2, table=inner)


class TangledLooks(unittest.TestCase):
    def test_two_hundred_and_one_more(self):
        scopes = two_hundred() + [([], [])]
        net = net_of(scopes, [], [(0, 0, ("x",))])
        self.assertEqual(walked(net, [None], usual(), 0), 31)
        self.assertEqual(used(net, [None], usual(), 0), [])
        scopes[1][0].append(("up", "to", 5))
        net = net_of(scopes, [], [(0, 0, ("x",))])
        for ask in (walked, used):
            self.assertRaises(Tangled, ask, net, [None], usual(), 0)

    def test_at_a_later_name(self):
        scopes = row_of_scopes((8, 8, 8), "elder") + [([], [("own", "a", "thing", 0)])]
        net = net_of(scopes, [("part", 0)], [(4, 0, ("a", "x")), (4, 0, ("a",))])
        for ask in (walked, used):
            self.assertRaises(Tangled, ask, net, [None, None], usual(), 0)
        self.assertEqual(walked(net, [None, None], usual(), 1), 16)


class AnyNets(unittest.TestCase):
    def test_nets_of_all_shapes(self):
        """Held against the words of the point, worked out in another way."""
        chance = random.Random(16)
        many = 0
        for _ in range(500):
            table = some_table(chance)
            net = asking_net(chance, table)
            answers = some_answers(chance, net)
            kept = copy.deepcopy((net, answers, table))
            for question in range(len(answers)):
                due = looked(net, answers, table, question)
                self.assertEqual(walked(net, answers, table, question), due.walked())
                self.assertEqual(used(net, answers, table, question), due.used())
                many += len(due.used()) > 1
            self.assertEqual((net, answers, table), kept)
        self.assertGreater(many, 100)

    def changed(self, chance, net, answers, scopes, uses):
        """Another net and other answers, but for these scopes and the answers of the questions used."""
        net, answers = copy.deepcopy((net, answers))
        for number in range(len(net[0])):
            if not scopes >> number & 1:
                net[0][number] = (
                    [some_step(chance, len(net[0]), len(net[2])) for _ in range(chance.randint(0, 3))],
                    [some_telling(chance, len(net[1]), len(net[2])) for _ in range(chance.randint(0, 3))])
        for question in range(len(answers)):
            if question not in uses:
                answers[question] = some_answer(chance, len(net[1]))
        return net, answers

    def test_what_is_found_hangs_on_these_alone(self):
        chance = random.Random(17)
        for _ in range(400):
            table = some_table(chance)
            net = asking_net(chance, table)
            answers = some_answers(chance, net)
            for question in range(len(answers)):
                scopes, uses = walked(net, answers, table, question), used(net, answers, table, question)
                other, others = self.changed(chance, net, answers, scopes, uses)
                for ask in (find, trail, walked, used):
                    self.assertEqual(ask(other, others, table, question), ask(net, answers, table, question))


class Kept(unittest.TestCase):
    def test_the_list_is_the_askers_own(self):
        net = net_of([([("up", "by", 1), ("elder", "by", 0)], [])], [], [(0, 0, ("x",))] * 2)
        given = used(net, [None, None], usual(), 0)
        given.append(7)
        self.assertEqual(used(net, [None, None], usual(), 0), [0, 1])
        self.assertEqual(net, net_of([([("up", "by", 1), ("elder", "by", 0)], [])], [], [(0, 0, ("x",))] * 2))

    def test_kinds(self):
        net = net_of([([("up", "by", 0)], [])], [], [(0, 0, ("x",))])
        self.assertIs(walked(net, [None], usual(), 0).__class__, int)
        self.assertIs(used(net, [None], usual(), 0).__class__, list)


if __name__ == "__main__":
    unittest.main()
