"""Points 23 and 24, the fourth row of point 3: a telling named anew, what is refused, Caught with its fields."""

import copy
import random
import unittest

from namepaths.anew import renamed
from namepaths.errors import Caught, NoName, NoPlace, PathError, Tangled
from namepaths.finds import trail
from namepaths.nets import net_of
from namepaths.still import still
from namepaths.tables import usual
from some_nets import asking_net, row_of_scopes, some_table, two_hundred
from worked_out import looked, standstill

PLAIN = ("plain", 0)
VAST = 10 ** 3999


def own(name, number):
    return ("own", name, "thing", number)


def by(name, number):
    return ("open", name, "by", number)


def ask(path, scope=0, state=0):
    return (scope, state, tuple(path.split(".")))


def told(scope, index):
    return (scope, "told", index)


class NamedAnew(unittest.TestCase):
    def check(self, scopes, things, questions, place, name, tellings, paths):
        """Scope 0's (or the place's) tellings and all paths, as they are behind it; nothing else is changed."""
        net = net_of(scopes, things, questions)
        kept = copy.deepcopy(net)
        new = renamed(net, usual(), place[0], place[1], name)
        self.assertEqual(net, kept)
        due = copy.deepcopy(net)
        due[0][place[0]] = (due[0][place[0]][0], tellings)
        for number, path in enumerate(paths):
            due[2][number] = due[2][number][:2] + (tuple(path.split(".")),)
        self.assertEqual(new, due)
        return new

    def test_a_telling_and_its_question(self):
        self.check([([], [own("a", 0), own("b", 0)])], [PLAIN], [ask("a"), ask("b"), ask("x")], (0, 0), "new",
                   [own("new", 0), own("b", 0)], ["new", "b", "x"])

    def test_the_last_telling_of_a_later_scope(self):
        scopes = [([("up", "to", 1)], [own("a", 0)]), ([], [own("b", 0), ("let", "c", "thing", 1)])]
        self.check(scopes, [PLAIN, PLAIN], [ask("c"), ask("a"), ask("b")], (1, 1), "new",
                   [own("b", 0), ("let", "new", "thing", 1)], ["new", "a", "b"])

    def test_a_telling_that_no_question_sees(self):
        self.check([([], [own("a", 0)])], [PLAIN], [ask("b")], (0, 0), "new", [own("new", 0)], ["b"])
        self.check([([], [own("a", 0)])], [PLAIN], [], (0, 0), "new", [own("new", 0)], [])

    def test_the_name_that_it_has(self):
        self.check([([], [own("a", 0), own("a", 0)])], [PLAIN], [ask("a")], (0, 0), "a",
                   [own("a", 0), own("a", 0)], ["a"])

    def test_and_back_again(self):
        scopes = [([("up", "to", 1)], [own("a", 0)]), ([], [own("b", 0), own("p", 1)]),
                  ([], [("open", "a", "thing", 0)])]
        net = net_of(scopes, [PLAIN, ("part", 2)], [ask("a"), ask("p.a"), ask("b"), ask("a.b"), ask("p")])
        for scope, index in ((0, 0), (1, 0), (1, 1), (2, 0)):
            new = renamed(net, usual(), scope, index, "new")
            self.assertNotEqual(new, net)
            self.assertEqual(renamed(new, usual(), scope, index, net[0][scope][1][index][1]), net)

    def test_names_that_are_seen_by_another_telling(self):
        # The a of scope 1 stays: scope 1's question sees another telling.
        scopes = [([("up", "to", 1)], [own("a", 0)]), ([], [own("a", 1)])]
        self.check(scopes, [PLAIN, PLAIN], [ask("a"), ask("a", 1)], (0, 0), "new", [own("new", 0)], ["new", "a"])
        self.check(scopes, [PLAIN, PLAIN], [ask("a"), ask("a", 1)], (1, 0), "new", [own("new", 1)], ["a", "new"])

    def test_names_in_paths_of_several(self):
        scopes = [([], [own("a", 0)]), ([], [("open", "a", "thing", 0), ("open", "b", "thing", 1)])]
        questions = [ask("a.a"), ask("a.a.a"), ask("a.b"), ask("a.b.a"), ask("a.x.a"), ask("x.a")]
        things = [("part", 1), PLAIN]
        self.check(scopes, things, questions, (0, 0), "new", [own("new", 0)],
                   ["new.a", "new.a.a", "new.b", "new.b.a", "new.x.a", "x.a"])
        self.check(scopes, things, questions, (1, 0), "new", [("open", "new", "thing", 0), ("open", "b", "thing", 1)],
                   ["a.new", "a.new.new", "a.b", "a.b.a", "a.x.a", "x.a"])
        self.check(scopes, things, questions, (1, 1), "new", [("open", "a", "thing", 0), ("open", "new", "thing", 1)],
                   ["a.a", "a.a.a", "a.new", "a.new.a", "a.x.a", "x.a"])

    def test_six_names(self):
        self.check([([], [("open", "a", "thing", 0)])], [("part", 0)], [ask("a.a.a.a.a.a"), ask("a.a.b.a")], (0, 0),
                   "new", [("open", "new", "thing", 0)], ["new.new.new.new.new.new", "new.new.b.a"])

    def test_names_in_open_questions(self):
        # Question 0 waits for itself behind p; question 1 waits by the telling itself; question 2 at an inside.
        scopes = [([], [own("p", 0), by("r", 1), own("s", 1)]), ([("elder", "by", 0)], [])]
        things = [("part", 1), ("sort", 1)]
        questions = [ask("p.x"), ask("r"), ask("s.y")]
        net = net_of(scopes, things, questions)
        self.assertEqual(still(net, usual())[0], [None, None, None])
        tellings = scopes[0][1]
        self.check(scopes, things, questions, (0, 0), "new", [own("new", 0)] + tellings[1:], ["new.x", "r", "s.y"])
        self.check(scopes, things, questions, (0, 1), "new", [tellings[0], by("new", 1), tellings[2]],
                   ["p.x", "new", "s.y"])
        self.check(scopes, things, questions, (0, 2), "new", tellings[:2] + [own("new", 1)],
                   ["p.x", "r", "new.y"])

    def test_an_open_question_that_sees_a_way_beside_an_owed_one(self):
        scopes = [([("up", "to", 1), ("elder", "by", 0)], []), ([], [own("x", 0)])]
        self.check(scopes, [PLAIN], [ask("x")], (1, 0), "new", [own("new", 0)], ["new"])

    def test_a_name_that_is_torn_has_other_seen_ways_too(self):
        # Seen by two tellings: the name stays, and so it is caught.
        scopes = [([], [own("a", 0), own("a", 1)])]
        with self.assertRaises(Caught) as taken:
            renamed(net_of(scopes, [PLAIN, PLAIN], [ask("a")]), usual(), 0, 0, "new")
        self.assertEqual(taken.exception.before, [[[told(0, 0)], [told(0, 1)]]])
        self.assertEqual(taken.exception.after, [[[told(0, 1)]]])

    def test_one_telling_seen_by_two_ways(self):
        scopes = [([("up", "to", 1), ("up", "to", 1)], []), ([], [own("a", 0)])]
        self.check(scopes, [PLAIN], [ask("a")], (1, 0), "new", [own("new", 0)], ["new"])

    def test_a_telling_by_keeps_its_own_name(self):
        # Question 0's path becomes new, but what it tells is told as b still; its own name may change alike.
        scopes = [([], [own("a", 0), by("b", 0), by("a", 1)]), ([], [own("a", 0)])]
        scopes[0][1].pop()
        self.check(scopes, [PLAIN], [ask("a"), ask("b")], (0, 0), "new", [own("new", 0), by("b", 0)], ["new", "b"])
        self.check(scopes, [PLAIN], [ask("a"), ask("b")], (0, 1), "new", [own("a", 0), by("new", 0)], ["a", "new"])

    def test_a_telling_by_called_like_what_it_brings(self):
        scopes = [([("up", "to", 1)], [by("a", 0)]), ([], [own("a", 0)])]
        self.check(scopes, [PLAIN], [ask("a", 1), ask("a", 0)], (1, 0), "new", [own("new", 0)], ["new", "a"])

    def test_names_that_find_nothing_by_the_telling(self):
        # The answer is none, but the way is seen: the name becomes the new one.
        scopes = [([], [by("a", 1)])]
        self.check(scopes, [], [ask("a"), ask("x")], (0, 0), "new", [by("new", 1)], ["new", "x"])


class Refused(unittest.TestCase):
    def refused(self, kind, net, scope, index, name):
        kept = copy.deepcopy(net)
        with self.assertRaises(PathError) as taken:
            renamed(net, usual(), scope, index, name)
        self.assertIs(taken.exception.__class__, kind)
        self.assertEqual(net, kept)
        return taken.exception

    def net(self):
        return net_of([([("up", "to", 1)], [own("a", 0)]), ([], [own("a", 1), own("b", 0)])], [PLAIN, PLAIN],
                      [ask("a"), ask("b")])

    def test_no_such_scope_or_telling(self):
        for scope, index in ((-1, 0), (2, 0), (0, -1), (0, 1), (1, 2), (1, -1), (1, -2), (VAST, 0), (-VAST, 0),
                             (0, VAST), (0, -VAST)):
            self.refused(NoPlace, self.net(), scope, index, "new")
        self.refused(NoPlace, net_of([], [], []), 0, 0, "new")
        self.refused(NoPlace, net_of([([("up", "to", 0)], [])], [], []), 0, 0, "new")

    def test_no_name(self):
        for name in ("", "A", "ninechars", "a1", "a ", "a.b", "\u00e4", "x" * 5000):
            self.refused(NoName, self.net(), 0, 0, name)

    def test_a_net_that_is_tangled(self):
        scopes = row_of_scopes((8, 8, 8)) + [([], [own("a", 0)])]
        net = net_of(scopes, [PLAIN], [ask("x"), ask("a", 4)])
        self.refused(Tangled, net, 4, 0, "new")
        self.refused(Tangled, net, 4, 0, "a")

    def test_a_new_net_that_is_tangled(self):
        # Scope 5's a becomes b, so that question 1 is answered by a part, by which there is one beginning too many.
        scopes = two_hundred() + [([], [own("a", 0)])]
        scopes[0][0].append(("up", "by", 1))
        net = net_of(scopes, [("part", 5)], [ask("x"), ask("b", 5)])
        self.refused(Tangled, net, 5, 0, "b")
        renamed(net, usual(), 5, 0, "c")

    def test_caught_by_an_answer(self):
        # What is told as b anew hides the b of scope 1.
        error = self.refused(Caught, self.net(), 0, 0, "b")
        self.assertEqual(error.question, 1)
        self.assertEqual(error.before, [[[(0, "step", 0), told(1, 1)]]])
        self.assertEqual(error.after, [[[told(0, 0)]]])

    def test_caught_by_a_telling_that_hides_the_new_name(self):
        # The a of scope 1, called b anew, is hidden from scope 0 by the b of scope 0.
        net = net_of([([("up", "to", 1)], [own("b", 0)]), ([], [own("a", 1)])], [PLAIN, PLAIN], [ask("b"), ask("a")])
        error = self.refused(Caught, net, 1, 0, "b")
        self.assertEqual((error.question, error.before, error.after),
                         (1, [[[(0, "step", 0), told(1, 0)]]], [[[told(0, 0)]]]))

    def test_caught_by_a_trail_alone(self):
        # Both tell the same thing, so the answer stays; but what was none is torn, or seen by another way.
        net = net_of([([("up", "to", 1)], [own("a", 0)]), ([], [own("b", 0)])], [PLAIN], [ask("x"), ask("b")])
        error = self.refused(Caught, net, 0, 0, "b")
        self.assertEqual(error.question, 1)
        self.assertEqual(error.before, [[[(0, "step", 0), told(1, 0)]]])
        self.assertEqual(error.after, [[[told(0, 0)]]])

    def test_caught_by_the_trail_of_an_open_question(self):
        net = net_of([([("up", "to", 1), ("elder", "by", 0)], []), ([], [own("a", 0)])], [PLAIN], [ask("x")])
        error = self.refused(Caught, net, 1, 0, "x")
        self.assertEqual((error.question, error.before, error.after), (0, [[]], [[[(0, "step", 0), told(1, 0)]]]))

    def test_caught_by_a_name_that_was_found_nowhere(self):
        net = net_of([([], [own("a", 0), own("c", 0)])], [PLAIN], [ask("a"), ask("c"), ask("b")])
        error = self.refused(Caught, net, 0, 0, "b")
        self.assertEqual((error.question, error.before, error.after), (2, [[]], [[[told(0, 0)]]]))

    def test_the_first_question_of_several(self):
        net = net_of([([("up", "to", 1)], [own("a", 0)]), ([], [own("b", 1)])], [PLAIN, PLAIN],
                     [ask("a"), ask("b", 1), ask("x.b"), ask("b.x"), ask("b")])
        error = self.refused(Caught, net, 0, 0, "b")
        self.assertEqual(error.question, 3)

    def test_caught_by_an_answer_whose_trail_is_the_same(self):
        # Question 0 sees the telling by question 1 ever after, which comes to mean another thing.
        net = net_of([([], [by("a", 1)]), ([], [own("b", 0), own("c", 1)])], [PLAIN, PLAIN],
                     [ask("a"), ask("b", 1)])
        error = self.refused(Caught, net, 1, 1, "b")
        self.assertEqual((error.question, error.before, error.after), (0, [[[told(0, 0)]]], [[[told(0, 0)]]]))

    def test_of_several_the_first(self):
        scopes = row_of_scopes((8, 8, 8)) + [([], [own("a", 0), own("b", 0)])]
        tangled = net_of(scopes, [PLAIN], [ask("x"), ask("a", 4), ask("b", 4)])
        self.refused(NoPlace, tangled, 4, 2, "")
        self.refused(NoPlace, self.net(), 2, 0, "A")
        self.refused(NoName, tangled, 4, 0, "A")
        self.refused(Tangled, tangled, 4, 0, "b")


class AnyNets(unittest.TestCase):
    """Nets of all shapes, held against the words of the points, worked out in another way."""

    def trails(self, net, table):
        answers = standstill(net, table)[0]
        return answers, [looked(net, answers, table, question).trail for question in range(len(answers))]

    def due(self, net, table, scope, index, name):
        """The net that is due, or (question, before, after)."""
        answers, trails = self.trails(net, table)
        new = copy.deepcopy(net)
        telling = new[0][scope][1][index]
        new[0][scope][1][index] = (telling[0], name) + telling[2:]
        for question, ways_of_names in enumerate(trails):
            path = list(net[2][question][2])
            for at, ways in enumerate(ways_of_names):
                if {way[-1] for way in ways} == {told(scope, index)}:
                    path[at] = name
            new[2][question] = net[2][question][:2] + (tuple(path),)
        others, other_trails = self.trails(new, table)
        for question in range(len(answers)):
            if (answers[question], trails[question]) != (others[question], other_trails[question]):
                return (question, trails[question], other_trails[question])
        return new

    def test_nets_of_all_shapes(self):
        chance = random.Random(23)
        counts = [0, 0, 0]
        for _ in range(500):
            table = some_table(chance)
            net = asking_net(chance, table)
            places = [(scope, index) for scope, parts in enumerate(net[0]) for index in range(len(parts[1]))]
            if not places:
                continue
            scope, index = chance.choice(places)
            name = chance.choice(("far", "x", "new"))
            kept = copy.deepcopy((net, table))
            due = self.due(net, table, scope, index, name)
            try:
                given = renamed(net, table, scope, index, name)
                counts[given != net] += 1
            except Caught as error:
                given = (error.question, error.before, error.after)
                counts[2] += 1
            self.assertEqual(given, due)
            self.assertEqual((net, table), kept)
        self.assertGreater(min(counts), 30, counts)

    def test_it_changes_no_answer_and_no_trail(self):
        chance = random.Random(24)
        for _ in range(200):
            table = some_table(chance)
            net = asking_net(chance, table)
            scope = chance.randrange(len(net[0]))
            for index in range(len(net[0][scope][1])):
                try:
                    new = renamed(net, table, scope, index, "new")
                except Caught:
                    continue
                answers = still(net, table)[0]
                self.assertEqual(still(new, table)[0], answers)
                for question in range(len(answers)):
                    self.assertEqual(trail(new, answers, table, question), trail(net, answers, table, question))


class Kept(unittest.TestCase):
    def parts(self):
        return net_of([([("up", "to", 1)], [own("a", 0)]), ([], [own("b", 0)])], [PLAIN], [ask("a"), ask("b")])

    def test_the_net_is_a_new_one(self):
        net = self.parts()
        new = renamed(net, usual(), 0, 0, "new")
        for steps, tellings in new[0]:
            steps.clear()
            tellings.clear()
        for part in new:
            part.clear()
        self.assertEqual(net, self.parts())
        new = renamed(net, usual(), 0, 0, "new")
        due = copy.deepcopy(new)
        for steps, tellings in net[0]:
            steps.clear()
            tellings.clear()
        for part in net:
            part.clear()
        self.assertEqual(new, due)

    def test_kinds(self):
        new = renamed(self.parts(), usual(), 0, 0, "new")
        self.assertEqual([part.__class__ for part in (new,) + new], [tuple, list, list, list])
        self.assertEqual([part.__class__ for part in (new[0][0],) + new[0][0]], [tuple, list, list])
        self.assertEqual([part.__class__ for part in new[2] + [new[2][0][2]]], [tuple, tuple, tuple])


if __name__ == "__main__":
    unittest.main()
