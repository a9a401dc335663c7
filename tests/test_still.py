"""Points 18 and 19, and the second row of point 3: the standstill, its turns, what is refused, that it is the least."""

import copy
import itertools
import random
import unittest

from namepaths.errors import Tangled
from namepaths.finds import find
from namepaths.nets import net_of
from namepaths.still import still
from namepaths.tables import table_of, usual
from some_nets import asking_net, row_of_scopes, some_answers, some_table, two_hundred
from worked_out import looked, standstill

PLAIN = ("plain", 0)


def own(name, number):
    return ("own", name, "thing", number)


def by(name, number):
    return ("open", name, "by", number)


def ask(path, scope=0, state=0):
    return (scope, state, tuple(path.split(".")))


class Standstills(unittest.TestCase):
    def check(self, scopes, things, questions, answers, turns, table=None):
        net = net_of(scopes, things, questions)
        table = table or usual()
        kept = copy.deepcopy((net, table))
        self.assertEqual(still(net, table), (answers, turns))
        self.assertEqual((net, table), kept)

    def test_no_questions(self):
        self.check([], [], [], [], [])
        self.check(row_of_scopes((8, 8, 8)), [PLAIN], [], [], [])

    def test_all_in_the_first_turn(self):
        scopes = [([], [own("a", 0), own("b", 1), own("b", 0)])]
        self.check(scopes, [PLAIN, PLAIN], [ask("a"), ask("b"), ask("c"), ask("a.b")],
                   [("thing", 0), ("torn", 0), ("none", 0), ("none", 1)], [1, 1, 1, 1])

    def test_several_turns(self):
        scopes = [([], [own("a", 0), by("b", 0), by("c", 1), by("d", 2)])]
        self.check(scopes, [PLAIN], [ask("a"), ask("b"), ask("c"), ask("d")], [("thing", 0)] * 4, [1, 2, 3, 4])

    def test_an_answer_counts_from_the_next_turn_on(self):
        # Whichever comes first in the list: each is looked up with the answers of the turns before.
        scopes = [([], [own("a", 0), by("b", 1), by("c", 0)])]
        self.check(scopes, [PLAIN], [ask("b"), ask("a"), ask("c")], [("thing", 0)] * 3, [2, 1, 3])

    def test_sixty_turns(self):
        names = [one + other for one in "abcdef" for other in "abcdefghij"]
        scopes = row_of_scopes([1] * 4)
        for number, name in enumerate(names):
            scopes[number // 12][1].append(by(name, number + 1) if number < 59 else own(name, 0))
        self.check(scopes, [PLAIN], [ask(name) for name in names], [("thing", 0)] * 60, list(range(60, 0, -1)))

    def test_a_step_by_a_question(self):
        scopes = [([("elder", "by", 0)], [own("a", 0)]), ([], [("open", "x", "thing", 1)])]
        things = [("part", 1), PLAIN]
        self.check(scopes, things, [ask("a", state=2), ask("x"), ask("x.x"), ask("y")],
                   [("thing", 0), ("thing", 1), ("none", 1), ("none", 0)], [1, 2, 2, 2])

    def test_a_sort(self):
        scopes = [([], [own("a", 0), own("b", 1)]), ([], [("open", "x", "thing", 2)])]
        things = [("sort", 1), ("part", 1), PLAIN]
        self.check(scopes, things, [ask("a.x"), ask("b"), ask("a")],
                   [("thing", 2), ("thing", 1), ("thing", 0)], [2, 1, 1])

    def test_a_wait_that_is_over_though_its_question_stays_open(self):
        # Question 2 waits at first by up for question 0, which is in a ring; then elder finds x, which hides up.
        scopes = [([("up", "by", 0), ("elder", "by", 1)], []), ([], [("open", "x", "thing", 0)]),
                  ([], [by("r", 0), own("a", 0)])]
        questions = [ask("r", 2), ask("a", 2), ask("x")]
        self.assertEqual(find(net_of(scopes, [("part", 1)], questions), [None] * 3, usual(), 2)[1][2], 0)
        self.check(scopes, [("part", 1)], questions, [None, ("thing", 0), ("thing", 0)], [0, 1, 2])

    def test_rings_are_left_open(self):
        scopes = [([], [by("a", 0), by("b", 2), by("c", 1), by("d", 2), own("e", 0)])]
        self.check(scopes, [PLAIN], [ask("a"), ask("b"), ask("c"), ask("d"), ask("e")],
                   [None, None, None, None, ("thing", 0)], [0, 0, 0, 0, 1])

    def test_what_hangs_on_a_ring_behind_answers(self):
        scopes = [([], [by("a", 0), own("b", 0), by("c", 1), by("c", 0), own("d", 1)]), ([], [by("x", 0)])]
        things = [("part", 1), ("sort", 0)]
        self.check(scopes, things, [ask("a"), ask("b"), ask("c"), ask("b.x"), ask("b.y"), ask("d.x"), ask("d")],
                   [None, ("thing", 0), None, None, ("none", 1), None, ("thing", 1)], [0, 1, 0, 0, 1, 0, 1])

    def test_a_ring_by_an_elder(self):
        scopes = [([("elder", "by", 0)], [own("b", 0)])]
        self.check(scopes, [PLAIN], [ask("a"), ask("b")], [None, ("thing", 0)], [0, 1])

    def test_it_hangs_on_the_table(self):
        scopes = [([("elder", "by", 0)], [own("b", 0)])]
        bare = table_of(usual()[0], 1, [])
        self.check(scopes, [PLAIN], [ask("a"), ask("b")], [None, None], [0, 0], bare)
        none = table_of([([], ["own"])], 0, [])
        self.check(scopes, [PLAIN], [ask("a"), ask("b")], [("none", 0), ("thing", 0)], [1, 1], none)


class TangledNets(unittest.TestCase):
    def check(self, scopes, things, questions, tangled, table=None):
        net = net_of(scopes, things, questions)
        kept = copy.deepcopy(net)
        if tangled:
            self.assertRaises(Tangled, still, net, table or usual())
        else:
            still(net, table or usual())
        self.assertEqual(net, kept)

    def test_two_hundred_and_one_more(self):
        scopes = two_hundred() + [([], [])]
        self.check(scopes, [], [ask("x")], False)
        scopes[0][0].append(("up", "to", 5))
        self.check(scopes, [], [ask("x")], True)
        self.check(scopes, [], [], False)
        self.check(scopes, [], [ask("x", 1)], False)
        self.check(scopes, [], [ask("x", 1), ask("x", 0)], True)

    def test_with_the_answers_of_the_standstill_alone(self):
        # Question 0 is answered in turn 1, with two hundred beginnings; question 1 then gives one more.
        scopes = two_hundred() + [([], [own("a", 0)])]
        scopes[0][0].append(("up", "by", 1))
        scopes[0][1].append(own("x", 0))
        self.check(scopes, [("part", 5)], [ask("x"), ask("a", 5)], True)
        self.check(scopes, [PLAIN], [ask("x"), ask("a", 5)], False)
        self.check(scopes, [("part", 0)], [ask("x"), ask("a", 5)], False)
        self.check(scopes, [("part", 5)], [ask("x"), ask("b", 5)], False)

    def test_in_a_late_turn(self):
        scopes = two_hundred() + [([], [own("a", 0), by("b", 2), by("c", 3)])]
        scopes[0][0].append(("up", "by", 1))
        scopes[0][1].append(own("x", 0))
        questions = [ask("x"), ask("c", 5), ask("a", 5), ask("b", 5)]
        self.check(scopes, [("part", 5)], questions, True)
        self.check(scopes, [("part", 5)], questions[:3] + [ask("x", 5)], False)

    def test_an_open_question(self):
        # It waits for itself, and by an answer it has 201 beginnings.
        scopes = two_hundred() + [([], [own("a", 0)])]
        scopes[0][0].extend([("up", "by", 1), ("elder", "by", 0)])
        self.check(scopes, [("part", 5)], [ask("x"), ask("a", 5)], True)
        self.check(scopes, [PLAIN], [ask("x"), ask("a", 5)], False)

    def test_with_fewer_answers_too(self):
        # Tangled from the first turn on, and so are all that need its answer.
        scopes = row_of_scopes((8, 8, 8)) + [([], [by("a", 0), own("b", 0)])]
        self.check(scopes, [PLAIN], [ask("x"), ask("a", 4), ask("b", 4)], True)
        scopes[0][1].append(own("x", 0))
        self.check(scopes, [PLAIN], [ask("x"), ask("a", 4), ask("b", 4)], True)

    def test_by_answers_that_come_late_and_are_needed_for_it_from_turn_to_turn(self):
        # Question 1 gives the first of the beginnings that are too many, question 3 others.
        scopes = [([("up", "by", 1)], [])] + [([("up", "to", 2)] * 8, []), ([("up", "to", 3)] * 8, []),
                                              ([("up", "by", 3)] * 3, [])]
        scopes += [([], [own("a", 0), own("b", 1), by("c", 2)]), ([], [])]
        things = [("part", 1), ("part", 5)]
        questions = [ask("x"), ask("a", 4), ask("b", 4), ask("c", 4)]
        self.check(scopes, things, questions, True)
        self.check(scopes, [("part", 1), PLAIN], questions, False)

    def test_at_a_later_name(self):
        scopes = row_of_scopes((8, 8, 8), "elder") + [([], [own("a", 0), by("b", 1)])]
        self.check(scopes, [("part", 0)], [ask("a", 4), ask("a", 4)], False)
        self.check(scopes, [("part", 0)], [ask("a", 4), ask("a.x", 4)], True)
        self.check(scopes, [("part", 0)], [ask("b.x", 4), ask("a", 4)], True)
        self.check(scopes, [("part", 0)], [ask("c.x", 4), ask("a", 4)], False)

    def test_just_two_hundred_at_the_end(self):
        scopes = row_of_scopes((1, 6, 8, 3))
        steps = scopes[0][0]
        scopes[0] = ([("up", "by", 1)], [own("x", 0)])
        self.check(scopes + [([], [own("a", 0)])], [("part", 1)], [ask("x"), ask("a", 5)], False)
        scopes[0][0].append(("up", "to", 5))
        self.check(scopes + [([], [own("a", 0)])], [("part", 1)], [ask("x"), ask("a", 5)], True)
        self.assertEqual(len(steps), 1)

    def test_as_tangled_as_can_be(self):
        scopes = [([("up", "to", (number + far) % 40) for far in range(1, 9)], []) for number in range(40)]
        self.check(scopes, [], [ask("x")] * 60, True)


class AnyNets(unittest.TestCase):
    """Nets of all shapes, held against the words of the points, worked out in another way."""

    def test_nets_of_all_shapes(self):
        chance = random.Random(18)
        most = {}
        for _ in range(500):
            table = some_table(chance)
            net = asking_net(chance, table, 10)
            kept = copy.deepcopy((net, table))
            answers, turns, tangled = standstill(net, table)
            self.assertEqual(still(net, table), (answers, turns))
            self.assertEqual((net, table), kept)
            most[max(turns)] = most.get(max(turns), 0) + 1
        self.assertGreater(most[3], 10, most)

    def dense_net(self, chance):
        """Six scopes with steps to one another, some of them by questions."""
        steps = [[("up", "to", chance.randrange(6)) for _ in range(chance.randint(2, 5))] for _ in range(6)]
        for number in range(6):
            if chance.random() < 0.8:
                steps[number].extend([(chance.choice(("up", "elder")), "by", chance.randrange(4))] * 3)
        return net_of(
            [(steps[number], [(chance.choice(("own", "let")), chance.choice("ab"), "thing", chance.randrange(6)),
                              ("own", chance.choice("ab"), "by", chance.randrange(4))]) for number in range(6)],
            [("part", number) for number in range(6)],
            [ask(chance.choice(("a", "b", "c", "a.b")), chance.randrange(6)) for _ in range(4)])

    def test_nets_of_which_some_are_tangled(self):
        chance = random.Random(19)
        table = table_of([([("up", 0), ("elder", 0)], ["own", "let"])], 0,
                         [("own", "up"), ("own", "elder"), ("let", "own"), ("elder", "up")])
        seen = [0, 0, 0]
        for _ in range(60):
            net = self.dense_net(chance)
            answers, turns, tangled = standstill(net, table)
            seen[tangled] += 1
            if tangled:
                self.assertRaises(Tangled, still, net, table)
                # Those of which no look is tangled in the first turn.
                seen[2] += not any(looked(net, [None] * 4, table, question).tangled for question in range(4))
            else:
                self.assertEqual(still(net, table), (answers, turns))
        self.assertGreater(min(seen), 2, seen)

    def test_later_answers_change_nothing_that_is_found(self):
        chance = random.Random(20)
        more = 0
        for _ in range(500):
            table = some_table(chance)
            net = asking_net(chance, table)
            later = some_answers(chance, net)
            early = [answer if chance.random() < 0.5 else None for answer in later]
            for question in range(len(later)):
                answer, wait = find(net, early, table, question)
                if answer is not None:
                    self.assertEqual(find(net, later, table, question), (answer, None))
                more += wait is not None and find(net, later, table, question)[0] is not None
        self.assertGreater(more, 50)

    def test_in_whatever_order(self):
        chance = random.Random(21)
        for _ in range(200):
            table = some_table(chance)
            net = asking_net(chance, table)
            answers = [None] * len(net[2])
            left = True
            while left:
                left = [question for question in range(len(answers))
                        if answers[question] is None and find(net, answers, table, question)[0] is not None]
                if left:
                    question = chance.choice(left)
                    answers[question] = find(net, answers, table, question)[0]
            self.assertEqual(still(net, table)[0], answers)

    def lists_that_fulfil_the_rules(self, net, table):
        choices = [[None] + [("thing", number) for number in range(len(net[1]))]
                   + [(kind, at) for kind in ("none", "torn") for at in range(len(path))]
                   for scope, state, path in net[2]]
        for answers in itertools.product(*choices):
            answers = list(answers)
            if all(find(net, answers, table, question)[0] == answer for question, answer in enumerate(answers)):
                yield answers

    def test_it_is_the_least_one(self):
        chance = random.Random(22)
        more = 0
        for _ in range(60):
            table = some_table(chance)
            net = asking_net(chance, table, 3, 3)
            net = net_of(net[0], net[1], [(scope, state, path[:2]) for scope, state, path in net[2]])
            answers = still(net, table)[0]
            lists = list(self.lists_that_fulfil_the_rules(net, table))
            self.assertIn(answers, lists)
            more += len(lists) > 1
            for other in lists:
                for mine, its in zip(answers, other):
                    self.assertIn(mine, (None, its))
        self.assertGreater(more, 5)


class Kept(unittest.TestCase):
    def parts(self):
        return net_of([([], [own("a", 0), by("b", 0)])], [PLAIN], [ask("a"), ask("b"), ask("c")]), usual()

    def test_the_lists_are_the_askers_own(self):
        net, table = self.parts()
        due = ([("thing", 0), ("thing", 0), ("none", 0)], [1, 2, 1])
        answers, turns = still(net, table)
        self.assertEqual((answers, turns), due)
        answers.clear()
        turns[0] = 7
        self.assertEqual(still(net, table), due)
        self.assertEqual((net, table), self.parts())

    def test_a_change_of_what_was_handed_in(self):
        net, table = self.parts()
        given = still(net, table)
        net[0][0][1].clear()
        net[2].clear()
        self.assertEqual(given, ([("thing", 0), ("thing", 0), ("none", 0)], [1, 2, 1]))

    def test_kinds(self):
        net, table = self.parts()
        given = still(net, table)
        self.assertEqual([part.__class__ for part in (given,) + given], [tuple, list, list])


if __name__ == "__main__":
    unittest.main()
