"""Points 10, 11 and 12: beginnings of a look, found ways, owed ways, and what is tangled."""

import copy
import random
import unittest

from namepaths.errors import Tangled
from namepaths.goals import goal
from namepaths.nets import net_of
from namepaths.tables import table_of, usual
from namepaths.ways import beginnings, found_ways, owed_ways
from some_nets import LABELS, NAMES, row_of_scopes, some_net, some_table, two_hundred


def step(scope, index):
    return (scope, "step", index)


def told(scope, index):
    return (scope, "told", index)


def asks(count):
    return [(0, 0, ("x",))] * count


class Beginnings(unittest.TestCase):
    def begun(self, scopes, scope=0, state=0, answers=(), things=()):
        net = net_of(scopes, list(things), asks(len(answers)))
        return beginnings(net, list(answers), usual(), scope, state)

    def test_the_one_without_marks(self):
        self.assertEqual(self.begun([([], [])]), [([], 0, 0)])
        self.assertEqual(self.begun([([], [])] * 3, 2, 1), [([], 2, 1)])

    def test_a_row(self):
        self.assertEqual(self.begun(row_of_scopes((1, 1))), [
            ([], 0, 0), ([step(0, 0)], 1, 0), ([step(0, 0), step(1, 0)], 2, 0)])

    def test_it_begins_at_the_scope(self):
        self.assertEqual(self.begun(row_of_scopes((1, 1)), 1), [([], 1, 0), ([step(1, 0)], 2, 0)])

    def test_states_that_come_then(self):
        scopes = [([("up", "to", 1)], []), ([("elder", "to", 2)], []), ([("up", "to", 0), ("allon", "to", 3)], []),
                  ([("all", "to", 0)], [])]
        self.assertEqual(self.begun(scopes, 0, 2), [
            ([], 0, 2), ([step(0, 0)], 1, 0), ([step(0, 0), step(1, 0)], 2, 1),
            ([step(0, 0), step(1, 0), step(2, 1)], 3, 1)])

    def test_steps_that_the_state_doesnt_go_by(self):
        scopes = [([("all", "to", 1), ("own", "to", 1), ("elder", "to", 1), ("down", "to", 1)], []), ([], [])]
        self.assertEqual(self.begun(scopes, 0, 0), [([], 0, 0), ([step(0, 0)], 1, 1), ([step(0, 2)], 1, 1)])
        self.assertEqual(self.begun(scopes, 0, 1), [([], 0, 1), ([step(0, 2)], 1, 1)])
        self.assertEqual(self.begun(scopes, 0, 2), [([], 0, 2)])

    def test_steps_back(self):
        scopes = [([("up", "to", 0), ("up", "to", 1)], []), ([("up", "to", 0), ("up", "to", 2)], []),
                  ([("up", "to", 1), ("up", "to", 2), ("up", "to", 0)], [])]
        self.assertEqual(self.begun(scopes), [
            ([], 0, 0), ([step(0, 1)], 1, 0), ([step(0, 1), step(1, 1)], 2, 0)])
        self.assertEqual(self.begun(scopes, 1), [
            ([], 1, 0), ([step(1, 0)], 0, 0), ([step(1, 1)], 2, 0), ([step(1, 1), step(2, 2)], 0, 0)])

    def test_a_step_back_in_another_state(self):
        # The scope was come to, in whatever state.
        scopes = [([("elder", "to", 1)], []), ([("elder", "to", 0)], [])]
        self.assertEqual(self.begun(scopes), [([], 0, 0), ([step(0, 0)], 1, 1)])

    def test_a_scope_come_to_by_two_ways(self):
        scopes = [([("up", "to", 1), ("up", "to", 2)], []), ([("up", "to", 3)], []), ([("up", "to", 3)], []),
                  ([], [])]
        self.assertEqual(self.begun(scopes), [
            ([], 0, 0), ([step(0, 0)], 1, 0), ([step(0, 0), step(1, 0)], 3, 0),
            ([step(0, 1)], 2, 0), ([step(0, 1), step(2, 0)], 3, 0)])

    def test_several_steps_between_two_scopes(self):
        self.assertEqual(self.begun(row_of_scopes((2, 2))), [
            ([], 0, 0),
            ([step(0, 0)], 1, 0), ([step(0, 0), step(1, 0)], 2, 0), ([step(0, 0), step(1, 1)], 2, 0),
            ([step(0, 1)], 1, 0), ([step(0, 1), step(1, 0)], 2, 0), ([step(0, 1), step(1, 1)], 2, 0)])

    def test_steps_by_questions(self):
        scopes = [([("up", "by", 0), ("up", "by", 1), ("up", "to", 2)], []), ([], []), ([], [])]
        things = [("part", 1), ("plain", 0), ("sort", 1), ("part", 0)]
        to_one, to_two = ([step(0, 0)], 1, 0), ([step(0, 2)], 2, 0)
        for answers, due in (
                ([None, None], [to_two]),
                ([("thing", 0), None], [to_one, to_two]),
                ([("thing", 1), None], [to_two]),
                ([("thing", 2), None], [to_two]),
                ([("thing", 2), ("thing", 0)], [to_one, ([step(0, 1)], 1, 0), to_two]),
                ([("thing", 2), ("thing", 3)], [to_two]),
                ([("thing", 3), None], [to_two]),
                ([("none", 0), ("torn", 0)], [to_two])):
            self.assertEqual(self.begun(scopes, answers=answers, things=things), [([], 0, 0)] + due, answers)

    def test_sorted_by_numbers(self):
        # Ten scopes and more: numbers are sorted as such, and what is gone first comes first.
        scopes = [([], []) for _ in range(12)]
        scopes[11] = ([("up", "to", 10), ("up", "to", 2)], [])
        scopes[10] = ([("up", "to", 2)], [])
        self.assertEqual(self.begun(scopes, 11), [
            ([], 11, 0), ([step(11, 0)], 10, 0), ([step(11, 0), step(10, 0)], 2, 0), ([step(11, 1)], 2, 0)])

    def test_all_scopes_in_a_row(self):
        found = self.begun(row_of_scopes([1] * 39))
        self.assertEqual(found[-1], ([step(number, 0) for number in range(39)], 39, 0))
        self.assertEqual(len(found), 40)


class TooMany(unittest.TestCase):
    def check(self, scopes, tangled, answers=(), things=(), state=0):
        net = net_of(scopes, list(things), asks(len(answers)))
        looks = (
            lambda: beginnings(net, list(answers), usual(), 0, state),
            lambda: found_ways(net, list(answers), usual(), 0, state, "x"),
            lambda: owed_ways(net, list(answers), usual(), 0, state))
        for look in looks:
            if tangled:
                self.assertRaises(Tangled, look)
            else:
                look()

    def test_two_hundred(self):
        net = net_of(two_hundred(), [], [])
        self.assertEqual(len(beginnings(net, [], usual(), 0, 0)), 200)
        self.check(two_hundred(), False)

    def test_one_more(self):
        for scope in (0, 1):
            scopes = two_hundred()
            scopes[scope][0].append(("up", "to", 5))
            self.check(scopes + [([], [])], True)

    def test_two_hundred_and_one_in_a_row(self):
        self.check(row_of_scopes((8, 8, 2)), True)
        self.check(row_of_scopes((8, 8, 1)), False)

    def test_what_is_no_beginning_doesnt_count(self):
        for more in (("up", "to", 0), ("own", "to", 5), ("up", "by", 0)):
            scopes = two_hundred()
            scopes[0][0].append(more)
            self.check(scopes + [([], [])], False, [None])

    def test_an_answer_more(self):
        scopes = two_hundred()
        scopes[0][0].append(("up", "by", 0))
        for answer, tangled in ((None, False), (("none", 0), False), (("thing", 1), False), (("thing", 0), True)):
            self.check(scopes + [([], [])], tangled, [answer], [("part", 5), ("plain", 0)])

    def test_it_hangs_on_the_state(self):
        self.check(row_of_scopes((8, 8, 8)), True)
        self.check(row_of_scopes((8, 8, 8)), False, state=1)

    def test_with_tellings_and_owed_ways_too(self):
        scopes = two_hundred()
        scopes[0][0].append(("up", "by", 0))
        scopes[0][1].append(("own", "x", "by", 0))
        self.check(scopes + [([], [])], False, [None])
        scopes[1][0].append(("up", "to", 5))
        self.check(scopes + [([], [])], True, [None])

    def test_as_tangled_as_can_be(self):
        scopes = [([("up", "to", (number + far) % 40) for far in range(1, 9)], []) for number in range(40)]
        self.check(scopes, True)


class FoundWays(unittest.TestCase):
    def found(self, scopes, name="x", scope=0, state=0):
        return found_ways(net_of(scopes, [("plain", 0)], []), [], usual(), scope, state, name)

    def test_at_the_scope_itself(self):
        self.assertEqual(self.found([([], [("own", "x", "thing", 0)])]), [[told(0, 0)]])

    def test_none(self):
        self.assertEqual(self.found([([], [])]), [])
        self.assertEqual(self.found([([], []), ([], [("own", "x", "thing", 0)])]), [])

    def test_tellings_of_another_name(self):
        tellings = [("own", "y", "thing", 0), ("own", "x", "thing", 0), ("own", "xx", "thing", 0),
                    ("open", "x", "thing", 0), ("x", "own", "thing", 0)]
        self.assertEqual(self.found([([], tellings)]), [[told(0, 1)], [told(0, 3)]])
        self.assertEqual(self.found([([], tellings)], "y"), [[told(0, 0)]])
        self.assertEqual(self.found([([], tellings)], "z"), [])
        self.assertEqual(self.found([([], tellings)], "own"), [])

    def test_a_label_that_the_state_lacks_in_its_ends(self):
        tellings = [("own", "x", "thing", 0), ("up", "x", "thing", 0), ("open", "x", "thing", 0),
                    ("let", "x", "thing", 0)]
        scopes = [([("elder", "to", 1)], tellings), ([], tellings)]
        self.assertEqual(self.found(scopes, state=1), [[step(0, 0), told(1, 2)], [told(0, 2)]])
        self.assertEqual(self.found(scopes, state=2), [[told(0, 0)], [told(0, 2)], [told(0, 3)]])
        # It is the state come to that counts: by elder open alone is found.
        self.assertEqual(self.found(scopes), [
            [step(0, 0), told(1, 2)], [told(0, 0)], [told(0, 2)], [told(0, 3)]])

    def test_tellings_by_questions_are_found_too(self):
        net = net_of([([], [("own", "x", "by", 0)])], [], asks(1))
        for answer in (None, ("none", 0), ("torn", 0)):
            self.assertEqual(found_ways(net, [answer], usual(), 0, 0, "x"), [[told(0, 0)]])

    def test_by_each_beginning(self):
        scopes = row_of_scopes((2, 1))
        for number in range(3):
            scopes[number][1].extend([("own", "x", "thing", 0)] * 2)
        self.assertEqual(self.found(scopes), [
            [step(0, 0), step(1, 0), told(2, 0)], [step(0, 0), step(1, 0), told(2, 1)],
            [step(0, 0), told(1, 0)], [step(0, 0), told(1, 1)],
            [step(0, 1), step(1, 0), told(2, 0)], [step(0, 1), step(1, 0), told(2, 1)],
            [step(0, 1), told(1, 0)], [step(0, 1), told(1, 1)],
            [told(0, 0)], [told(0, 1)]])

    def test_sorted_by_numbers(self):
        tellings = [("own", "x", "thing", 0)] * 12
        self.assertEqual(self.found([([], tellings)]), [[told(0, index)] for index in range(12)])

    def test_as_many_as_can_be(self):
        scopes = two_hundred()
        for steps, tellings in scopes:
            tellings.extend([("own", "x", "thing", 0)] * 12)
        self.assertEqual(len(self.found(scopes)), 2400)


class OwedWays(unittest.TestCase):
    def test_the_question_is_told(self):
        net = net_of([([("up", "by", 1), ("elder", "by", 0)], [])], [], asks(2))
        self.assertEqual(owed_ways(net, [None, None], usual(), 0, 0), [([step(0, 0)], 1), ([step(0, 1)], 0)])

    def test_answered_ones_are_not_owed(self):
        net = net_of([([("up", "by", 1), ("elder", "by", 0), ("up", "to", 0)], [])], [("part", 0)], asks(2))
        self.assertEqual(owed_ways(net, [("none", 0), ("torn", 0)], usual(), 0, 0), [])
        self.assertEqual(owed_ways(net, [("thing", 0), None], usual(), 0, 0), [([step(0, 0)], 1)])

    def test_a_thing_with_an_open_sort(self):
        net = net_of([([("up", "by", 0)], [])], [("sort", 1)], asks(2))
        self.assertEqual(owed_ways(net, [("thing", 0), None], usual(), 0, 0), [([step(0, 0)], 1)])

    def test_steps_that_the_state_doesnt_go_by(self):
        net = net_of([([("up", "by", 0), ("own", "by", 0), ("allon", "by", 0)], [])], [], asks(1))
        self.assertEqual(owed_ways(net, [None], usual(), 0, 0), [([step(0, 0)], 0), ([step(0, 2)], 0)])
        self.assertEqual(owed_ways(net, [None], usual(), 0, 1), [([step(0, 2)], 0)])
        self.assertEqual(owed_ways(net, [None], usual(), 0, 2), [([step(0, 0)], 0)])

    def test_behind_beginnings(self):
        scopes = [([("elder", "to", 1), ("up", "by", 2), ("up", "to", 1)], []),
                  ([("up", "by", 1), ("elder", "by", 0)], [])]
        net = net_of(scopes, [], asks(3))
        self.assertEqual(owed_ways(net, [None] * 3, usual(), 0, 0), [
            ([step(0, 0), step(1, 1)], 0), ([step(0, 1)], 2),
            ([step(0, 2), step(1, 0)], 1), ([step(0, 2), step(1, 1)], 0)])

    def test_none(self):
        self.assertEqual(owed_ways(net_of(row_of_scopes((2, 2)), [], []), [], usual(), 0, 0), [])

    def test_no_telling_is_owed(self):
        net = net_of([([], [("own", "x", "by", 0)])], [], asks(1))
        self.assertEqual(owed_ways(net, [None], usual(), 0, 0), [])


class AnyNets(unittest.TestCase):
    """Nets of all shapes, held against the words of the points, worked out in another way."""

    def all_beginnings(self, net, answers, table, scope, state, visited):
        found = [([], scope, state)]
        goes = dict(table[0][state][0])
        for index, told_step in enumerate(net[0][scope][0]):
            kind, number = goal(net, answers, told_step)
            if told_step[0] in goes and kind == "to" and number not in visited:
                for marks, last, then in self.all_beginnings(
                        net, answers, table, number, goes[told_step[0]], visited | {number}):
                    found.append(([step(scope, index)] + marks, last, then))
        return found

    def check(self, net, answers, table, scope, state):
        begun = self.all_beginnings(net, answers, table, scope, state, {scope})
        if len(begun) > 200:
            for look in (beginnings, owed_ways):
                self.assertRaises(Tangled, look, net, answers, table, scope, state)
            self.assertRaises(Tangled, found_ways, net, answers, table, scope, state, "x")
            return
        self.assertEqual(beginnings(net, answers, table, scope, state), sorted(begun))
        for name in NAMES:
            due = [marks + [told(last, index)] for marks, last, then in begun
                   for index, telling in enumerate(net[0][last][1])
                   if telling[1] == name and telling[0] in table[0][then][1]]
            self.assertEqual(found_ways(net, answers, table, scope, state, name), sorted(due))
        due = [(marks + [step(last, index)], goal(net, answers, told_step)[1]) for marks, last, then in begun
               for index, told_step in enumerate(net[0][last][0])
               if told_step[0] in dict(table[0][then][0]) and goal(net, answers, told_step)[0] == "open"]
        self.assertEqual(owed_ways(net, answers, table, scope, state), sorted(due))

    def test_nets_of_all_shapes(self):
        chance = random.Random(10)
        for _ in range(400):
            net, answers = some_net(chance)
            table = some_table(chance)
            kept = copy.deepcopy((net, answers, table))
            self.check(net, answers, table, chance.randrange(len(net[0])), chance.randrange(len(table[0])))
            self.assertEqual((net, answers, table), kept)

    def test_nets_with_more_steps(self):
        chance = random.Random(11)
        table = table_of([([(label, 0) for label in LABELS], ["own"])], 0, [])
        for _ in range(60):
            scopes = [([("up", "to", chance.randrange(6)) for _ in range(chance.randint(1, 4))],
                       [("own", "x", "thing", 0)]) for _ in range(6)]
            self.check(net_of(scopes, [("plain", 0)], []), [], table, 0, 0)


class Kept(unittest.TestCase):
    """What is given is the asker's own: a change of it changes nothing that is given later, and no other list."""

    def parts(self):
        scopes = row_of_scopes((2, 1)) + [([], [])]
        scopes[0][0].append(("up", "by", 0))
        scopes[2][0].append(("up", "by", 0))
        for number in range(3):
            scopes[number][1].extend([("own", "x", "thing", 0)] * 2)
        return net_of(scopes, [("plain", 0)], asks(1)), [None], usual()

    def looks(self):
        return (
            (lambda net, answers, table: beginnings(net, answers, table, 0, 0), lambda part: part[0]),
            (lambda net, answers, table: found_ways(net, answers, table, 0, 0, "x"), lambda part: part),
            (lambda net, answers, table: owed_ways(net, answers, table, 0, 0), lambda part: part[0]))

    def test_changes_of_what_was_given(self):
        for look, marks_of in self.looks():
            net, answers, table = self.parts()
            due = copy.deepcopy(look(net, answers, table))
            self.assertGreater(len(due), 2)
            for place in range(len(due)):
                given = look(net, answers, table)
                marks_of(given[place]).append((9, "told", 9))
                rest = given[:place] + given[place + 1:]
                self.assertEqual(rest, due[:place] + due[place + 1:])
                given.clear()
            self.assertEqual(look(net, answers, table), due)
            self.assertEqual((net, answers, table), self.parts())

    def test_changes_of_what_was_handed_in(self):
        for look, marks_of in self.looks():
            net, answers, table = self.parts()
            given = look(net, answers, table)
            due = copy.deepcopy(given)
            for steps, tellings in net[0]:
                steps.clear()
                tellings.clear()
            answers.clear()
            table[0].clear()
            self.assertEqual(given, due)

    def test_kinds(self):
        net, answers, table = self.parts()
        for marks, last, then in beginnings(net, answers, table, 0, 0):
            self.assertIs(marks.__class__, list)
        for part in beginnings(net, answers, table, 0, 0) + owed_ways(net, answers, table, 0, 0):
            self.assertIs(part.__class__, tuple)
        for way in found_ways(net, answers, table, 0, 0, "x"):
            self.assertIs(way.__class__, list)
            self.assertEqual({mark.__class__ for mark in way}, {tuple})


if __name__ == "__main__":
    unittest.main()
