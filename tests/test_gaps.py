"""Point 25, the fifth row of point 3: what may stand at a gap, and what is refused."""

import copy
import random
import unittest

from namepaths.errors import Tangled
from namepaths.finds import find
from namepaths.gaps import may_stand
from namepaths.house import House
from namepaths.nets import net_of
from namepaths.still import still
from namepaths.tables import usual
from some_nets import asking_net, row_of_scopes, some_answers, some_table, two_hundred
from worked_out import Looked

PLAIN = ("plain", 0)


def own(name, number):
    return ("own", name, "thing", number)


def by(name, number):
    return ("open", name, "by", number)


class Gaps(unittest.TestCase):
    def check(self, scopes, things, due, scope=0, state=0, answers=(), questions=None):
        net = net_of(scopes, things, questions or [(0, 0, ("q",))] * len(answers))
        answers = list(answers)
        kept = copy.deepcopy((net, answers))
        self.assertEqual(may_stand(net, answers, usual(), scope, state), due)
        self.assertEqual((net, answers), kept)

    def test_without_tellings(self):
        self.check([([], [])], [], [])
        self.check(row_of_scopes((1, 1)), [PLAIN], [])

    def test_sorted(self):
        self.check([([], [own("far", 3), own("b", 1), own("near", 0), own("a", 2)])], [PLAIN] * 4,
                   [("a", 2), ("b", 1), ("far", 3), ("near", 0)])

    def test_a_name_told_in_several_scopes(self):
        scopes = [([("up", "to", 1)], [own("a", 0)]), ([], [own("a", 1), own("b", 1)]), ([], [own("a", 2)])]
        things = [PLAIN] * 3
        self.check(scopes, things, [("a", 0), ("b", 1)], 0)
        self.check(scopes, things, [("a", 1), ("b", 1)], 1)
        self.check(scopes, things, [("a", 2)], 2)

    def test_names_that_are_told_elsewhere_alone(self):
        scopes = [([], []), ([("up", "to", 0)], [own("a", 0)])]
        self.check(scopes, [PLAIN], [], 0)
        self.check(scopes, [PLAIN], [("a", 0)], 1)

    def test_torn_ones(self):
        self.check([([], [own("a", 0), own("a", 1), own("b", 1), own("b", 1)])], [PLAIN] * 2, [("b", 1)])

    def test_told_by_a_question(self):
        scopes = [([], [by("a", 0), by("b", 1), by("c", 2), own("d", 0)])]
        self.check(scopes, [PLAIN, PLAIN], [("a", 1), ("d", 0)], answers=[("thing", 1), ("none", 0), ("torn", 0)])

    def test_open_ones(self):
        scopes = [([], [by("a", 0), own("b", 0), own("c", 0), by("c", 0)])]
        self.check(scopes, [PLAIN], [("b", 0)], answers=[None])

    def test_open_by_an_owed_way(self):
        # What is told in scope 0 hides the elder; what is told further up doesn't.
        scopes = [([("elder", "by", 0), ("up", "to", 1)], [own("a", 0)]), ([], [own("a", 1), own("b", 1)])]
        self.check(scopes, [PLAIN] * 2, [("a", 0)], answers=[None])
        self.check(scopes, [PLAIN] * 2, [("a", 0), ("b", 1)], answers=[("none", 0)])

    def test_it_hangs_on_the_answers_handed_in(self):
        scopes = [([], [by("a", 0)])]
        for answer, due in ((("thing", 0), [("a", 0)]), (("thing", 1), [("a", 1)]), (("none", 0), []), (None, [])):
            self.check(scopes, [PLAIN, PLAIN], due, answers=[answer])

    def test_the_state(self):
        scopes = [([("elder", "to", 1)], [own("a", 0), ("open", "b", "thing", 0)]), ([], [("open", "c", "thing", 0)])]
        self.check(scopes, [PLAIN], [("a", 0), ("b", 0), ("c", 0)], state=0)
        self.check(scopes, [PLAIN], [("b", 0), ("c", 0)], state=1)
        self.check(scopes, [PLAIN], [("a", 0), ("b", 0)], state=2)

    def test_a_state_that_is_left_out(self):
        scopes = [([("elder", "to", 1)], [own("a", 0)]), ([], [("open", "c", "thing", 0)])]
        net = net_of(scopes, [PLAIN], [])
        self.assertEqual(may_stand(net, [], usual(), 0), [("a", 0), ("c", 0)])
        self.assertEqual(may_stand(net, [], usual(), 0, state=2), [("a", 0)])

    def test_sixty_questions(self):
        questions = [(0, 0, ("a",))] * 60
        self.check([([], [own("a", 0), by("b", 59)])], [PLAIN, PLAIN], [("a", 0), ("b", 1)],
                   answers=[("thing", 0)] * 59 + [("thing", 1)], questions=questions)

    def test_things_of_each_kind(self):
        scopes = [([], [own("a", 0), own("b", 1), own("c", 2)])]
        self.check(scopes, [PLAIN, ("part", 0), ("sort", 0)], [("a", 0), ("b", 1), ("c", 2)], answers=[None])

    def test_as_many_names_as_can_be(self):
        names = [one + other for one in "abcdefghijklmnopqrst" for other in "abcdefghijklmnopqrstuvwx"]
        scopes = [([("up", "to", number + 1)] if number < 39 else [],
                   [own(name, number) for name in names[number * 12:number * 12 + 12]]) for number in range(40)]
        self.check(scopes, [PLAIN] * 40, [(name, place // 12) for place, name in enumerate(names)])


class TangledGaps(unittest.TestCase):
    def check(self, scopes, tangled, scope=0, state=0, things=(), answers=()):
        net = net_of(scopes, list(things), [(0, 0, ("q",))] * len(answers))
        if tangled:
            self.assertRaises(Tangled, may_stand, net, list(answers), usual(), scope, state)
        else:
            may_stand(net, list(answers), usual(), scope, state)

    def test_where_nothing_is_told(self):
        self.check(two_hundred() + [([], [])], False)
        scopes = two_hundred() + [([], [])]
        scopes[0][0].append(("up", "to", 5))
        self.check(scopes, True)
        self.check(scopes, False, 1)
        self.check(scopes, False, 0, 1)

    def test_where_something_is_told(self):
        scopes = two_hundred() + [([], [own("a", 0)])]
        self.check(scopes, False, things=[PLAIN])
        scopes[0][0].append(("up", "to", 5))
        scopes[0][1].append(own("b", 0))
        self.check(scopes, True, things=[PLAIN])

    def test_it_hangs_on_the_answers(self):
        scopes = two_hundred() + [([], [])]
        scopes[0][0].append(("up", "by", 0))
        for answer, tangled in ((None, False), (("none", 0), False), (("thing", 0), True)):
            self.check(scopes, tangled, things=[("part", 5)], answers=[answer])

    def test_though_no_question_of_the_net_is(self):
        scopes = row_of_scopes((8, 8, 8)) + [([], [])]
        net = net_of(scopes, [], [(4, 0, ("x",))])
        answers = still(net, usual())[0]
        self.assertRaises(Tangled, may_stand, net, answers, usual(), 0)
        self.assertEqual(may_stand(net, answers, usual(), 4), [])


class AnyNets(unittest.TestCase):
    def names(self, net):
        return sorted({telling[1] for steps, tellings in net[0] for telling in tellings})

    def test_nets_of_all_shapes_with_any_answers(self):
        """Held against the words of the point, worked out in another way."""
        chance = random.Random(25)
        many = 0
        for _ in range(400):
            table = some_table(chance)
            net = asking_net(chance, table)
            answers = some_answers(chance, net)
            scope, state = chance.randrange(len(net[0])), chance.randrange(len(table[0]))
            found = [(name, Looked(net, answers, table, (scope, state, (name,))).answer) for name in self.names(net)]
            due = [(name, answer[1]) for name, answer in found if answer is not None and answer[0] == "thing"]
            self.assertEqual(may_stand(net, answers, table, scope, state), due)
            many += bool(due)
        self.assertGreater(many, 50)

    def test_just_what_asked_there_is_answered_by_a_thing(self):
        chance = random.Random(26)
        for _ in range(100):
            table = some_table(chance)
            net = asking_net(chance, table)
            answers = still(net, table)[0]
            scope, state = chance.randrange(len(net[0])), chance.randrange(len(table[0]))
            standing = dict(may_stand(net, answers, table, scope, state))
            for name in self.names(net) + ["other"]:
                house = House(net, table)
                number = house.ask(scope, (name,), state)
                answer = house.answers()[number]
                if name in standing:
                    self.assertEqual(answer, ("thing", standing[name]))
                else:
                    self.assertNotEqual((answer or ("open", 0))[0], "thing")
                asked = net_of(net[0], net[1], net[2] + [(scope, state, (name,))])
                self.assertEqual(find(asked, answers + [None], table, len(net[2]))[0], answer)


class Kept(unittest.TestCase):
    def test_the_list_is_the_askers_own(self):
        net = net_of([([], [own("a", 0)])], [PLAIN], [])
        given = may_stand(net, [], usual(), 0)
        given.clear()
        self.assertEqual(may_stand(net, [], usual(), 0), [("a", 0)])
        given = may_stand(net, [], usual(), 0)
        net[0].clear()
        self.assertEqual(given, [("a", 0)])
        self.assertEqual([given.__class__, given[0].__class__], [list, tuple])


if __name__ == "__main__":
    unittest.main()
