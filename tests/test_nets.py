"""Points 7 and 8: nets made and refused; labels and tellings at marks (point 10)."""

import copy
import itertools
import unittest

from namepaths.errors import NoName, NoPlace, PathError, TooGreat
from namepaths.nets import label_at, net_of, telling_at

NO_NAMES = ("", "abcdefghi", "Up", "up2", "u p", " up", "up\n", "\u00e4", "up.own", "`", "{")
FAR = 10 ** 3999
NO_KINDS = ("", "no", "To", "BY", "to ", "\u00e4", "step", "told", "none", "torn", "open", "scope", "question")


def parts():
    """Parts of a net with every kind of step, telling, thing and question."""
    scopes = [
        ([("up", "to", 1), ("elder", "by", 1), ("up", "to", 0)],
         [("own", "far", "thing", 0), ("open", "far", "by", 0), ("own", "far", "thing", 0)]),
        ([], [("let", "abcdefgh", "thing", 2)]),
        ([("all", "by", 0)], []),
    ]
    things = [("plain", 0), ("part", 2), ("sort", 1), ("plain", 0)]
    questions = [(0, 0, ("far",)), (2, 7, ("a", "b", "c", "d", "e", "abcdefgh"))]
    return scopes, things, questions


def refusal(scopes, things, questions):
    try:
        net_of(scopes, things, questions)
    except PathError as error:
        return error.__class__
    return None


def step_net(kind, number):
    """Parts with two scopes, three things and four questions, and this step in the last scope."""
    return [([], []), ([("up", "to", 0), ("up", kind, number)], [])], [("plain", 0)] * 3, [(0, 0, ("x",))] * 4


def telling_net(kind, number):
    return ([([], []), ([], [("own", "x", "thing", 0), ("own", "x", kind, number)])],
            [("plain", 0)] * 3, [(0, 0, ("x",))] * 4)


def thing_net(kind, number):
    return [([], [])] * 2, [("plain", 0)] * 2 + [(kind, number)], [(0, 0, ("x",))] * 4


def question_net(scope, state):
    return [([], [])] * 2, [("plain", 0)] * 3, [(0, 0, ("x",))] * 3 + [(scope, state, ("x",))]


class Made(unittest.TestCase):
    def test_a_net_of_every_kind(self):
        self.assertEqual(net_of(*parts()), parts())

    def test_a_net_without_anything(self):
        self.assertEqual(net_of([], [], []), ([], [], []))

    def test_things_and_questions_may_be_lacking(self):
        self.assertEqual(net_of([([("up", "to", 0)], [])], [], []), ([([("up", "to", 0)], [])], [], []))
        self.assertEqual(net_of([], [("plain", 0)], []), ([], [("plain", 0)], []))
        self.assertEqual(net_of([([], [])], [], [(0, 0, ("x",))]), ([([], [])], [], [(0, 0, ("x",))]))

    def test_kinds(self):
        net = net_of(*parts())
        self.assertIs(net.__class__, tuple)
        self.assertEqual([part.__class__ for part in net], [list] * 3)
        for scope in net[0]:
            self.assertIs(scope.__class__, tuple)
            self.assertEqual([part.__class__ for part in scope], [list] * 2)
        rows = net[0][0][0] + net[0][0][1] + net[1] + net[2]
        self.assertEqual({row.__class__ for row in rows}, {tuple})
        self.assertIs(net[2][1][2].__class__, tuple)

    def test_nothing_is_sorted_and_doubles_stay(self):
        scopes = [([("up", "to", 0), ("all", "to", 0), ("up", "to", 0)],
                   [("own", "z", "thing", 1), ("let", "a", "thing", 0), ("own", "z", "thing", 1)])]
        things = [("plain", 0), ("part", 0), ("plain", 0)]
        questions = [(0, 2, ("z", "a", "z")), (0, 1, ("a",)), (0, 2, ("z", "a", "z"))]
        self.assertEqual(net_of(scopes, things, questions), (scopes, things, questions))

    def test_great_states(self):
        for state in (0, 1, 8, 1000, FAR):
            self.assertEqual(net_of(*question_net(1, state))[2][3], (1, state, ("x",)))

    def test_a_net_is_made_again_of_its_parts(self):
        net = net_of(*parts())
        self.assertEqual(net_of(*net), net)


class Bounds(unittest.TestCase):
    def full(self):
        """Parts at each of the six bounds."""
        scopes = [([("up", "to", 39)] * 8, [("own", "x", "thing", 79)] * 12) for _ in range(40)]
        return scopes, [("sort", 59)] * 80, [(39, 0, ("x",) * 6)] * 60

    def test_at_each_bound(self):
        self.assertEqual(net_of(*self.full()), self.full())

    def test_one_beyond_each_bound(self):
        for place in (0, 20, 39):
            scopes, things, questions = self.full()
            scopes[place][0].append(("up", "to", 0))
            self.assertIs(refusal(scopes, things, questions), TooGreat)
            scopes, things, questions = self.full()
            scopes[place][1].append(("own", "x", "thing", 0))
            self.assertIs(refusal(scopes, things, questions), TooGreat)
            scopes, things, questions = self.full()
            questions[place] = (0, 0, ("x",) * 7)
            self.assertIs(refusal(scopes, things, questions), TooGreat)
        scopes, things, questions = self.full()
        self.assertIs(refusal(scopes + [([], [])], things, questions), TooGreat)
        self.assertIs(refusal(scopes, things + [("plain", 0)], questions), TooGreat)
        self.assertIs(refusal(scopes, things, questions + [(0, 0, ("x",))]), TooGreat)

    def test_each_alone(self):
        for told in (
                ([([], [])] * 41, [], []),
                ([], [("plain", 0)] * 81, []),
                ([([], [])], [], [(0, 0, ("x",))] * 61),
                ([([("up", "to", 0)] * 9, [])], [], []),
                ([([], [("own", "x", "thing", 0)] * 13)], [("plain", 0)], []),
                ([([], [])], [], [(0, 0, ("x",) * 7)])):
            self.assertIs(refusal(*told), TooGreat)

    def test_bounds_are_of_one_scope(self):
        scopes = [([("up", "to", 0)] * 8, []), ([], [("own", "x", "thing", 0)] * 12)]
        self.assertIsNone(refusal(scopes, [("plain", 0)], []))
        scopes = [([("up", "to", 0)] * 8, [("own", "x", "thing", 0)] * 5)]
        self.assertIsNone(refusal(scopes, [("plain", 0)], []))


class NoNames(unittest.TestCase):
    def test_words_that_are_no_names(self):
        thing, ask = ("plain", 0), (0, 0, ("x",))
        for word in NO_NAMES:
            for told in (
                    ([([(word, "to", 0)], [])], [], []),
                    ([([], []), ([("up", "to", 0), (word, "by", 0)], [])], [], [ask]),
                    ([([], [(word, "x", "thing", 0)])], [thing], []),
                    ([([], [("own", word, "thing", 0)])], [thing], []),
                    ([([], []), ([], [("own", "x", "by", 0), (word, "x", "by", 0)])], [], [ask]),
                    ([([], []), ([], [("own", "x", "by", 0), ("own", word, "by", 0)])], [], [ask]),
                    ([([], [])], [], [(0, 0, (word,))]),
                    ([([], [])], [], [ask, (0, 0, ("x", word))]),
                    ([([], [])], [], [ask, (0, 0, (word, "x", "x", "x", "x", "x"))])):
                self.assertIs(refusal(*told), NoName, told)

    def test_a_path_without_names(self):
        self.assertIs(refusal([([], [])], [], [(0, 0, ())]), NoName)
        self.assertIs(refusal([([], [])], [], [(0, 0, ("x",)), (0, 0, ())]), NoName)

    def test_names_of_one_and_of_eight_letters(self):
        for word in ("a", "z", "abcdefgh"):
            self.assertIsNone(refusal([([(word, "to", 0)], [(word, word, "thing", 0)])], [("plain", 0)],
                                      [(0, 0, (word,) * 6)]))


class NoPlaces(unittest.TestCase):
    MADE_BY = (
        (step_net, {"to": 2, "by": 4}),
        (telling_net, {"thing": 3, "by": 4}),
        (thing_net, {"plain": 1, "part": 2, "sort": 4}),
    )

    def test_numbers(self):
        for made_by, kinds in self.MADE_BY:
            for kind, many in kinds.items():
                for number in range(many):
                    self.assertIsNone(refusal(*made_by(kind, number)), (kind, number))
                for number in (-1, -2, -many, -many - 1, many, many + 1, 99, FAR, -FAR):
                    self.assertIs(refusal(*made_by(kind, number)), NoPlace, kind)

    def test_kinds(self):
        for made_by, kinds in self.MADE_BY:
            for kind in ("to", "by", "thing", "plain", "part", "sort") + NO_KINDS:
                due = None if kind in kinds else NoPlace
                self.assertIs(refusal(*made_by(kind, 0)), due, (made_by, kind))

    def test_nothing_is_there(self):
        for told in (
                ([([("up", "by", 0)], [])], [], []),
                ([([], [("own", "x", "thing", 0)])], [], []),
                ([([], [("own", "x", "by", 0)])], [("plain", 0)], []),
                ([], [("part", 0)], []),
                ([], [("sort", 0)], []),
                ([], [], [(0, 0, ("x",))])):
            self.assertIs(refusal(*told), NoPlace, told)

    def test_a_plain_things_number(self):
        for number in (1, -1, 2, 3, FAR, -FAR):
            self.assertIs(refusal([([], [])] * 4, [("plain", 0), ("plain", number)], []), NoPlace)

    def test_a_questions_scope(self):
        for scope in (-1, -2, -3, 2, 3, FAR, -FAR):
            self.assertIs(refusal(*question_net(scope, 0)), NoPlace)
        self.assertIsNone(refusal(*question_net(1, 0)))

    def test_a_questions_state(self):
        for state in (-1, -2, -FAR):
            self.assertIs(refusal(*question_net(0, state)), NoPlace)


class FirstRefusal(unittest.TestCase):
    """Of several refusals the first of point 8 is told, wherever each of them is."""

    # Each refusal with the faults for which it is due, as scopes, things and questions that are added.
    FAULTS = (
        (TooGreat, (
            ([([], [])] * 41, [], []),
            ([], [("plain", 0)] * 81, []),
            ([], [], [(0, 0, ("x",))] * 61),
            ([([("up", "to", 0)] * 9, [])], [], []),
            ([([], [("own", "x", "thing", 0)] * 13)], [], []),
            ([], [], [(0, 0, ("x",) * 7)]))),
        (NoName, (
            ([([("Up", "to", 0)], [])], [], []),
            ([([], [("", "x", "thing", 0)])], [], []),
            ([([], [("own", "abcdefghi", "thing", 0)])], [], []),
            ([], [], [(0, 0, ("x", "X"))]),
            ([], [], [(0, 0, ())]))),
        (NoPlace, (
            ([([("up", "too", 0)], [])], [], []),
            ([([("up", "to", 99)], [])], [], []),
            ([([], [("own", "x", "thing", -1)])], [], []),
            ([], [("plain", 1)], []),
            ([], [("sort", 99)], []),
            ([], [], [(99, 0, ("x",))]),
            ([], [], [(0, -1, ("x",))]))),
    )

    def check(self, due, faults):
        for turned in (faults, faults[::-1]):
            scopes, things, questions = [([], [])], [("plain", 0)], [(0, 0, ("x",))]
            for more_scopes, more_things, more_questions in turned:
                scopes = scopes + more_scopes
                things = things + more_things
                questions = questions + more_questions
            self.assertIs(refusal(scopes, things, questions), due, faults)

    def test_each_alone(self):
        for due, faults in self.FAULTS:
            for fault in faults:
                self.check(due, (fault,))

    def test_two_or_more_at_once(self):
        for count in (2, 3):
            for told in itertools.combinations(self.FAULTS, count):
                for faults in itertools.product(*[faults for due, faults in told]):
                    self.check(told[0][0], faults)

    def test_two_in_one_place(self):
        self.assertIs(refusal([([("Up", "too", 99)] * 9, [])], [], []), TooGreat)
        self.assertIs(refusal([([("Up", "too", 99)], [])], [], []), NoName)
        self.assertIs(refusal([([], [("Own", "X", "to", 99)] * 13)], [], []), TooGreat)
        self.assertIs(refusal([([], [("own", "X", "to", 99)])], [], []), NoName)
        self.assertIs(refusal([], [], [(99, -1, ("X",) * 7)]), TooGreat)
        self.assertIs(refusal([], [], [(99, -1, ("x", ""))]), NoName)
        self.assertIs(refusal([], [], [(99, -1, ())]), NoName)

    def test_one_scope_too_many_gives_no_place(self):
        self.assertIs(refusal([([], [])] * 41, [("part", 40)], []), TooGreat)


class Marks(unittest.TestCase):
    def test_labels(self):
        net = net_of(*parts())
        marks = [(0, "step", 0), (0, "step", 1), (0, "told", 0), (0, "told", 1), (1, "told", 0), (2, "step", 0)]
        self.assertEqual([label_at(net, mark) for mark in marks], ["up", "elder", "own", "open", "let", "all"])

    def test_tellings(self):
        net = net_of(*parts())
        self.assertEqual(telling_at(net, (0, "told", 0)), ("own", "far", "thing", 0))
        self.assertEqual(telling_at(net, (0, "told", 1)), ("open", "far", "by", 0))
        self.assertEqual(telling_at(net, (1, "told", 0)), ("let", "abcdefgh", "thing", 2))


class Kept(unittest.TestCase):
    """What is handed in stays, and nobody's later change reaches a net."""

    def change_all(self, scopes, things, questions):
        for steps, tellings in scopes:
            steps.append(("up", "to", 0))
            tellings.clear()
        scopes.pop()
        things.reverse()
        questions.clear()

    def test_what_is_handed_in_stays_as_it_was(self):
        told = parts()
        net_of(*told)
        self.assertEqual(told, parts())

    def test_what_is_refused_stays_as_it_was(self):
        for more in ([("plain", 0)] * 80, [("plain", 1)]):
            scopes, things, questions = parts()
            self.assertIsNotNone(refusal(scopes, things + more, questions))
            self.assertEqual((scopes, things, questions), parts())

    def test_a_change_of_what_was_handed_in(self):
        told = parts()
        net = net_of(*told)
        self.change_all(*told)
        self.assertEqual(net, parts())

    def test_a_change_of_one_net(self):
        told = parts()
        one, other = net_of(*told), net_of(*told)
        self.change_all(*one)
        self.assertEqual(other, parts())
        self.assertEqual(told, parts())

    def test_a_change_of_a_net_that_a_net_was_made_of(self):
        one = net_of(*parts())
        other = net_of(*one)
        self.change_all(*one)
        self.assertEqual(other, parts())

    def test_scopes_handed_in_as_one_list_are_two(self):
        steps, tellings = [("up", "to", 0)], [("own", "x", "thing", 0)]
        net = net_of([(steps, tellings), (steps, tellings)], [("plain", 0)], [])
        net[0][0][0].clear()
        net[0][0][1].clear()
        self.assertEqual(net[0][1], ([("up", "to", 0)], [("own", "x", "thing", 0)]))

    def test_asking_changes_nothing(self):
        net = net_of(*parts())
        due = copy.deepcopy(net)
        label_at(net, (0, "step", 0))
        telling_at(net, (0, "told", 0))
        self.assertEqual(net, due)


if __name__ == "__main__":
    unittest.main()
