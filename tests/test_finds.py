"""Points 14 and 15: what is found for a question, for what it waits, its trail; point 11 for both."""

import copy
import random
import unittest

from namepaths.errors import Tangled
from namepaths.finds import find, trail
from namepaths.nets import net_of
from namepaths.tables import table_of, usual
from some_nets import asking_net, row_of_scopes, some_answers, some_table, two_hundred
from worked_out import looked

PLAIN = ("plain", 0)


def step(scope, index):
    return (scope, "step", index)


def told(scope, index):
    return (scope, "told", index)


def own(name, number):
    return ("own", name, "thing", number)


def by(name, number):
    return ("open", name, "by", number)


class Finds(unittest.TestCase):
    """Question 0 is looked up; the others are there for their answers."""

    def check(self, scopes, things, path, due, answers=(), wait=None, ways=None, start=(0, 0), table=None):
        answers = [None] + list(answers)
        questions = [start + (tuple(path.split(".")),)] + [(0, 0, ("y",))] * (len(answers) - 1)
        net = net_of(scopes, things, questions)
        table = table or usual()
        kept = copy.deepcopy((net, answers, table))
        self.assertEqual(find(net, answers, table, 0), (due, wait))
        if ways is not None:
            self.assertEqual(trail(net, answers, table, 0), ways)
        self.assertEqual((net, answers, table), kept)


class OwedWays(Finds):
    """The first row: an owed way that no found way hides."""

    def test_no_found_way(self):
        self.check([([("up", "by", 1)], [])], [], "x", None, [None], (0, [step(0, 0)], 1), [[]])

    def test_one_that_no_found_way_hides(self):
        # By elder x may be found, which would hide that of up.
        scopes = [([("up", "to", 1), ("elder", "by", 1)], []), ([], [own("x", 0)])]
        self.check(scopes, [PLAIN], "x", None, [None], (0, [step(0, 1)], 1), [[[step(0, 0), told(1, 0)]]])

    def test_one_beside_a_found_way_of_which_neither_is_better(self):
        scopes = [([("all", "to", 1), ("allon", "by", 1)], []), ([], [("open", "x", "thing", 0)])]
        self.check(scopes, [PLAIN], "x", None, [None], (0, [step(0, 1)], 1), [[[step(0, 0), told(1, 0)]]])

    def test_one_that_is_hidden(self):
        scopes = [([("up", "by", 1), ("elder", "by", 2)], [own("x", 0)])]
        self.check(scopes, [PLAIN], "x", ("thing", 0), [None, None], None, [[[told(0, 0)]]])

    def test_one_that_is_hidden_by_a_hidden_way(self):
        # That of elder hides the owed one of up and is hidden itself.
        scopes = [([("up", "by", 1), ("elder", "to", 1)], [own("x", 0)]), ([], [("open", "x", "thing", 1)])]
        self.check(scopes, [PLAIN, PLAIN], "x", ("thing", 0), [None], None, [[[told(0, 0)]]])

    def test_some_are_hidden(self):
        scopes = [([("up", "by", 1), ("all", "to", 1), ("elder", "by", 2)], []), ([], [("open", "x", "thing", 0)])]
        self.check(scopes, [PLAIN], "x", None, [None, None], (0, [step(0, 2)], 2), [[[step(0, 1), told(1, 0)]]])

    def test_the_first_in_their_order(self):
        scopes = [([("up", "to", 1), ("elder", "by", 1)], []), ([("up", "by", 3), ("up", "by", 2)], [])]
        self.check(scopes, [], "x", None, [None] * 3, (0, [step(0, 0), step(1, 0)], 3), [[]])
        self.check(scopes, [], "x", None, [None, None, ("none", 0)], (0, [step(0, 0), step(1, 1)], 2), [[]])
        self.check(scopes, [], "x", None, [None, ("none", 0), ("none", 0)], (0, [step(0, 1)], 1), [[]])
        self.check(scopes, [], "x", ("none", 0), [("none", 0)] * 3, None, [[]])

    def test_the_first_isnt_the_one_of_the_best_label(self):
        scopes = [([("up", "by", 2), ("elder", "by", 1)], [])]
        self.check(scopes, [], "x", None, [None, None], (0, [step(0, 0)], 2))

    def test_a_thing_with_an_open_sort(self):
        # Question 1 is answered, but by a thing whose sort is open.
        scopes = [([("elder", "by", 1)], []), ([], [("open", "x", "thing", 0)])]
        things = [("part", 1), ("sort", 2)]
        self.check(scopes, things, "x", None, [("thing", 1), None], (0, [step(0, 0)], 2), [[]])
        self.check(scopes, things, "x", ("thing", 0), [("thing", 1), ("thing", 0)], None,
                   [[[step(0, 0), told(1, 0)]]])

    def test_a_step_that_the_state_doesnt_go_by(self):
        scopes = [([("elder", "by", 1)], [own("x", 0)])]
        self.check(scopes, [PLAIN], "y", ("none", 0), [None], None, [[]], start=(0, 2))

    def test_the_question_itself(self):
        self.check([([("elder", "by", 0)], [])], [], "x", None, [], (0, [step(0, 0)], 0), [[]])

    def test_ahead_of_an_open_telling(self):
        scopes = [([("all", "by", 2)], []), ([], [])]
        scopes[0][0].append(("allon", "to", 1))
        scopes[1][1].append(by("x", 1))
        self.check(scopes, [], "x", None, [None, None], (0, [step(0, 0)], 2), [[[step(0, 1), told(1, 0)]]])

    def test_at_a_later_name(self):
        scopes = [([], [own("a", 0)]), ([("elder", "by", 1), ("up", "by", 2)], [])]
        self.check(scopes, [("part", 1)], "a.x", None, [None, None], (1, [step(1, 0)], 1), [[[told(0, 0)]], []])
        # Behind a dot the state is inner: up isn't gone.
        self.check(scopes, [("part", 1)], "a.x", ("none", 1), [("none", 0), None], None, [[[told(0, 0)]], []])


class NoWays(Finds):
    def test_nothing_told(self):
        self.check([([], [])], [], "x", ("none", 0), [], None, [[]])

    def test_other_names_and_labels(self):
        scopes = [([("up", "to", 1)], [own("y", 0), ("up", "x", "thing", 0)]), ([], [own("xx", 0)])]
        self.check(scopes, [PLAIN], "x", ("none", 0), [], None, [[]])

    def test_steps_that_lead_nowhere(self):
        scopes = [([("up", "by", 1), ("elder", "by", 2), ("all", "by", 3)], [])]
        self.check(scopes, [PLAIN], "x", ("none", 0), [("none", 0), ("torn", 0), ("thing", 0)], None, [[]])

    def test_at_the_second_name(self):
        scopes = [([], [own("a", 0)]), ([], [own("x", 0)])]
        self.check(scopes, [("part", 1)], "a.x", ("none", 1), [], None, [[[told(0, 0)]], []])


class Tellings(Finds):
    """What the seen ways' tellings mean."""

    def test_one_thing(self):
        self.check([([], [own("x", 1)])], [PLAIN, PLAIN], "x", ("thing", 1), [], None, [[[told(0, 0)]]])

    def test_one_thing_by_two_tellings(self):
        self.check([([], [own("x", 1), ("open", "x", "thing", 1)])], [PLAIN, PLAIN], "x", ("thing", 1), [], None,
                   [[[told(0, 0)], [told(0, 1)]]])

    def test_one_thing_by_a_question_and_by_itself(self):
        self.check([([], [own("x", 1), by("x", 1)])], [PLAIN, PLAIN], "x", ("thing", 1), [("thing", 1)], None,
                   [[[told(0, 0)], [told(0, 1)]]])

    def test_a_thing_by_a_question(self):
        self.check([([], [by("x", 1)])], [PLAIN, PLAIN], "x", ("thing", 1), [("thing", 1)], None, [[[told(0, 0)]]])

    def test_two_things(self):
        self.check([([], [own("x", 1), own("x", 0)])], [PLAIN, PLAIN], "x", ("torn", 0), [], None,
                   [[[told(0, 0)], [told(0, 1)]]])
        self.check([([], [own("x", 0), by("x", 1)])], [PLAIN, PLAIN], "x", ("torn", 0), [("thing", 1)])
        self.check([([], [by("x", 1), by("x", 2)])], [PLAIN, PLAIN], "x", ("torn", 0), [("thing", 1), ("thing", 0)])

    def test_two_things_of_which_one_is_hidden(self):
        scopes = [([("up", "to", 1)], [own("x", 1)]), ([], [own("x", 0)])]
        self.check(scopes, [PLAIN, PLAIN], "x", ("thing", 1), [], None, [[[told(0, 0)]]])

    def test_nothing(self):
        for answer in (("none", 0), ("torn", 0)):
            self.check([([], [by("x", 1)])], [PLAIN], "x", ("none", 0), [answer], None, [[[told(0, 0)]]])

    def test_nothing_by_all(self):
        # None and torn are both nothing: they don't make it torn.
        self.check([([], [by("x", 1), by("x", 2)])], [PLAIN], "x", ("none", 0), [("none", 0), ("torn", 0)], None,
                   [[[told(0, 0)], [told(0, 1)]]])

    def test_a_thing_and_nothing(self):
        for answer in (("none", 0), ("torn", 0)):
            self.check([([], [by("x", 1), own("x", 0)])], [PLAIN], "x", ("torn", 0), [answer])
            self.check([([], [own("x", 0), by("x", 1)])], [PLAIN], "x", ("torn", 0), [answer], None,
                       [[[told(0, 0)], [told(0, 1)]]])

    def test_a_thing_of_number_0_and_nothing(self):
        self.check([([], [own("x", 0), own("x", 0)])], [PLAIN], "x", ("thing", 0))
        self.check([([], [by("x", 1), by("x", 2)])], [PLAIN], "x", ("torn", 0), [("thing", 0), ("none", 0)])

    def test_a_hidden_telling_means_nothing_here(self):
        scopes = [([("up", "to", 1)], [own("x", 0)]), ([], [by("x", 1)])]
        for answer in (None, ("none", 0), ("thing", 1)):
            self.check(scopes, [PLAIN, PLAIN], "x", ("thing", 0), [answer], None, [[[told(0, 0)]]])

    def test_an_open_question_that_is_seen(self):
        self.check([([], [by("x", 1)])], [], "x", None, [None], (0, [told(0, 0)], 1), [[[told(0, 0)]]])
        scopes = [([("up", "to", 1)], []), ([], [by("x", 1)])]
        self.check(scopes, [], "x", None, [None], (0, [step(0, 0), told(1, 0)], 1),
                   [[[step(0, 0), told(1, 0)]]])

    def test_the_first_seen_way_with_an_open_question(self):
        tellings = [own("x", 0), by("x", 3), by("x", 2), by("x", 1)]
        self.check([([], tellings)], [PLAIN], "x", None, [None] * 3, (0, [told(0, 1)], 3))
        self.check([([], tellings)], [PLAIN], "x", None, [None, None, ("none", 0)], (0, [told(0, 2)], 2))
        self.check([([], tellings)], [PLAIN], "x", None, [None, ("thing", 0), ("none", 0)], (0, [told(0, 3)], 1))

    def test_open_though_others_are_torn(self):
        tellings = [own("x", 0), own("x", 1), by("x", 1)]
        self.check([([], tellings)], [PLAIN, PLAIN], "x", None, [None], (0, [told(0, 2)], 1),
                   [[[told(0, 0)], [told(0, 1)], [told(0, 2)]]])

    def test_one_telling_by_two_ways(self):
        scopes = [([("up", "to", 1), ("up", "to", 1)], []), ([], [own("x", 0)])]
        self.check(scopes, [PLAIN], "x", ("thing", 0), [], None,
                   [[[step(0, 0), told(1, 0)], [step(0, 1), told(1, 0)]]])

    def test_the_question_itself(self):
        self.check([([], [by("x", 0)])], [], "x", None, [], (0, [told(0, 0)], 0), [[[told(0, 0)]]])

    def test_nothing_torn_and_open_at_the_second_name(self):
        first = [[told(0, 0)]]
        for tellings, answer, due, wait in (
                ([by("x", 1)], ("none", 0), ("none", 1), None),
                ([by("x", 1), ("open", "x", "thing", 1)], ("none", 0), ("torn", 1), None),
                ([by("x", 1)], None, None, (1, [told(1, 0)], 1))):
            second = [[told(1, index)] for index in range(len(tellings))]
            self.check([([], [own("a", 0)]), ([], tellings)], [("part", 1), PLAIN], "a.x", due, [answer], wait,
                       [first, second])

    def test_it_hangs_on_the_state(self):
        scopes = [([], [own("x", 0), ("open", "x", "thing", 1)])]
        self.check(scopes, [PLAIN, PLAIN], "x", ("torn", 0), start=(0, 2))
        self.check(scopes, [PLAIN, PLAIN], "x", ("thing", 1), start=(0, 1))


class Insides(Finds):
    """The inside of the thing found, ahead of the last name and at the last name."""

    def test_a_scope(self):
        scopes = [([], [own("a", 0)]), ([], [("open", "x", "thing", 1)])]
        self.check(scopes, [("part", 1), PLAIN], "a.x", ("thing", 1), [], None, [[[told(0, 0)]], [[told(1, 0)]]])
        self.check(scopes, [("part", 1), PLAIN], "a", ("thing", 0), [], None, [[[told(0, 0)]]])

    def test_no(self):
        self.check([([], [own("a", 0)])], [PLAIN], "a.x", ("none", 1), [], None, [[[told(0, 0)]]])
        self.check([([], [own("a", 0)])], [PLAIN], "a.x.y.z", ("none", 1), [], None, [[[told(0, 0)]]])
        self.check([([], [own("a", 0)])], [PLAIN], "a", ("thing", 0))

    def test_a_sort(self):
        scopes = [([], [own("a", 0)]), ([], [("open", "x", "thing", 1)])]
        things = [("sort", 1), PLAIN, ("part", 1)]
        first = [[told(0, 0)]]
        for answer, due in (
                (("thing", 2), ("thing", 1)), (("thing", 1), ("none", 1)), (("thing", 0), ("none", 1)),
                (("none", 0), ("none", 1)), (("torn", 0), ("none", 1))):
            ways = [first, [[told(1, 0)]]] if due == ("thing", 1) else [first]
            self.check(scopes, things, "a.x", due, [answer], None, ways)
            self.check(scopes, things, "a", ("thing", 0), [answer], None, [first])

    def test_open(self):
        scopes = [([], [own("a", 0)]), ([], [("open", "x", "thing", 1)])]
        things = [("sort", 1), PLAIN]
        self.check(scopes, things, "a.x", None, [None], (0, [], 1), [[[told(0, 0)]]])
        self.check(scopes, things, "a", ("thing", 0), [None], None, [[[told(0, 0)]]])

    def test_open_and_no_at_the_second_name(self):
        scopes = [([], [own("a", 0)]), ([], [("open", "b", "thing", 1)])]
        ways = [[[told(0, 0)]], [[told(1, 0)]]]
        self.check(scopes, [("part", 1), ("sort", 1)], "a.b.c", None, [None], (1, [], 1), ways)
        self.check(scopes, [("part", 1), ("sort", 1)], "a.b.c", ("none", 2), [("none", 0)], None, ways)
        self.check(scopes, [("part", 1), PLAIN], "a.b.c.d", ("none", 2), [], None, ways)

    def test_a_sort_that_is_the_question_itself(self):
        self.check([([], [own("a", 0)])], [("sort", 0)], "a.x", None, [], (0, [], 0), [[[told(0, 0)]]])

    def test_a_thing_found_by_a_question(self):
        scopes = [([], [by("a", 1)]), ([], [("open", "x", "thing", 1)])]
        self.check(scopes, [("part", 1), PLAIN], "a.x", ("thing", 1), [("thing", 0)])

    def test_behind_a_dot_the_state_is_inner(self):
        scopes = [([], [own("a", 0)]), ([("up", "to", 2), ("elder", "to", 2)], [own("x", 1)]),
                  ([], [("open", "x", "thing", 2)])]
        things = [("part", 1), PLAIN, PLAIN]
        self.check(scopes, things, "a.x", ("thing", 2), [], None, [[[told(0, 0)]], [[step(1, 1), told(2, 0)]]])
        inner = table_of(usual()[0], 2, usual()[2])
        self.check(scopes, things, "a.x", ("thing", 1), [], None, [[[told(0, 0)]], [[told(1, 0)]]], table=inner)


class LongPaths(Finds):
    def scopes(self):
        """Scope 0 tells a, whose inside is 1, which tells b, and so on."""
        return [([], [("open", name, "thing", number)]) for number, name in enumerate("abcdef")] + [([], [])]

    def things(self):
        return [("part", number + 1) for number in range(6)]

    def test_one_to_six_names(self):
        for many in range(1, 7):
            path = ".".join("abcdef"[:many])
            ways = [[[told(number, 0)]] for number in range(many)]
            self.check(self.scopes(), self.things(), path, ("thing", many - 1), [], None, ways)

    def test_ends_at_each_name(self):
        for many in range(6):
            path = ".".join(list("abcdef"[:many]) + ["x"] * (6 - many))
            ways = [[[told(number, 0)]] for number in range(many)] + [[]]
            self.check(self.scopes(), self.things(), path, ("none", many), [], None, ways)

    def test_waits_at_each_name(self):
        for many in range(6):
            scopes = self.scopes()
            scopes[many] = ([], [by("abcdef"[many], 1)])
            ways = [[[told(number, 0)]] for number in range(many + 1)]
            self.check(scopes, self.things(), "a.b.c.d.e.f", None, [None], (many, [told(many, 0)], 1), ways)
            things = self.things()
            things[many] = ("sort", 1)
            due, wait = (("thing", 5), None) if many == 5 else (None, (many, [], 1))
            self.check(self.scopes(), things, "a.b.c.d.e.f", due, [None], wait, ways)

    def test_a_part_within_itself(self):
        self.check([([], [("open", "a", "thing", 0)])], [("part", 0)], "a.a.a.a.a.a", ("thing", 0), [], None,
                   [[[told(0, 0)]]] * 6)


class TangledLooks(unittest.TestCase):
    def check(self, net, answers, table, tangled):
        for ask in (find, trail):
            if tangled:
                self.assertRaises(Tangled, ask, net, answers, table, 0)
            else:
                ask(net, answers, table, 0)

    def test_two_hundred_and_one_more(self):
        scopes = two_hundred() + [([], [])]
        self.check(net_of(scopes, [], [(0, 0, ("x",))]), [None], usual(), False)
        scopes[1][0].append(("up", "to", 5))
        self.check(net_of(scopes, [], [(0, 0, ("x",))]), [None], usual(), True)

    def test_though_it_would_wait_or_be_found(self):
        scopes = two_hundred() + [([], [])]
        scopes[0][0].extend([("elder", "by", 0), ("up", "to", 5)])
        self.check(net_of(scopes, [], [(0, 0, ("x",))]), [None], usual(), True)
        scopes[0][1].append(own("x", 0))
        self.check(net_of(scopes, [PLAIN], [(0, 0, ("x",))]), [None], usual(), True)

    def test_at_a_later_name(self):
        # Scope 0 tells a; its inside is a look with too many beginnings by elder.
        scopes = row_of_scopes((8, 8, 8), "elder") + [([], [own("a", 0), own("b", 1)])]
        things = [("part", 0), PLAIN]
        for path, tangled in ((("a", "x"), True), (("a",), False), (("b", "x"), False), (("c", "x"), False)):
            self.check(net_of(scopes, things, [(4, 0, path)]), [None], usual(), tangled)

    def test_it_hangs_on_the_answers(self):
        scopes = two_hundred() + [([], [])]
        scopes[0][0].append(("up", "by", 1))
        net = net_of(scopes, [("part", 5)], [(0, 0, ("x",)), (5, 0, ("y",))])
        self.check(net, [None, None], usual(), False)
        self.check(net, [None, ("thing", 0)], usual(), True)
        self.check(net, [None, ("none", 0)], usual(), False)


class AnyNets(unittest.TestCase):
    """Nets of all shapes with any answers, held against the words of the points, worked out in another way."""

    def case(self, found):
        if found.answer is not None:
            return found.answer[0] + (" later" if len(found.trail) > 1 else "")
        return "open by a way" if found.wait[1] else "open by an inside"

    def test_nets_of_all_shapes(self):
        chance = random.Random(14)
        cases = {}
        for _ in range(600):
            table = some_table(chance)
            net = asking_net(chance, table)
            answers = some_answers(chance, net)
            kept = copy.deepcopy((net, answers, table))
            for question in range(len(answers)):
                due = looked(net, answers, table, question)
                self.assertEqual(find(net, answers, table, question), (due.answer, due.wait))
                self.assertEqual(trail(net, answers, table, question), due.trail)
                cases[self.case(due)] = cases.get(self.case(due), 0) + 1
            self.assertEqual((net, answers, table), kept)
        self.assertGreater(min(cases.values()), 5, cases)
        self.assertEqual(len(cases), 8, cases)


class Kept(unittest.TestCase):
    """What is told is the asker's own, with the lists in it."""

    def parts(self):
        scopes = [([("all", "to", 1), ("allon", "to", 1), ("elder", "by", 1)], [own("a", 0)]),
                  ([], [("open", "x", "thing", 1), ("open", "x", "by", 1)])]
        return net_of(scopes, [("part", 0), PLAIN], [(0, 0, ("x",)), (0, 2, ("a", "x"))]), [None, None], usual()

    def test_find_changed_behind_and_asked_again(self):
        net, answers, table = self.parts()
        due = (None, (0, [step(0, 2)], 1))
        answer, wait = find(net, answers, table, 0)
        self.assertEqual((answer, wait), due)
        wait[1].append(told(9, 9))
        self.assertEqual(find(net, answers, table, 0), due)
        answers[1] = ("none", 0)
        due = (("torn", 0), None)
        self.assertEqual(find(net, answers, table, 0), due)

    def test_a_wait_by_a_telling_and_the_trail(self):
        net, answers, table = self.parts()
        net[0][0][0].pop()
        due = (None, (0, [step(0, 0), told(1, 1)], 1))
        self.assertEqual(find(net, answers, table, 0), due)
        find(net, answers, table, 0)[1][1].clear()
        self.assertEqual(find(net, answers, table, 0), due)

    def test_trail_changed_behind_and_asked_again(self):
        net, answers, table = self.parts()
        due = [[[step(0, index), told(1, number)] for index in (0, 1) for number in (0, 1)]]
        given = trail(net, answers, table, 0)
        self.assertEqual(given, due)
        given[0][0].append(told(9, 9))
        self.assertEqual(given[0][1:], due[0][1:])
        given[0].pop()
        given.append([])
        self.assertEqual(trail(net, answers, table, 0), due)
        self.assertEqual((net, answers, table), self.parts())

    def test_what_was_handed_in_changed_behind(self):
        net, answers, table = self.parts()
        found, ways = find(net, answers, table, 0), trail(net, answers, table, 0)
        due = copy.deepcopy((found, ways))
        for steps, tellings in net[0]:
            steps.clear()
            tellings.clear()
        answers.clear()
        self.assertEqual((found, ways), due)

    def test_kinds(self):
        net, answers, table = self.parts()
        found = find(net, answers, table, 0)
        self.assertIs(found.__class__, tuple)
        self.assertIs(found[1].__class__, tuple)
        self.assertIs(found[1][1].__class__, list)
        ways = trail(net, answers, table, 0)
        self.assertEqual({part.__class__ for part in [ways] + ways + ways[0]}, {list})


if __name__ == "__main__":
    unittest.main()
