"""Point 9: the inside of a thing and the goal of a step, with answers."""

import copy
import unittest

from namepaths.goals import goal, inside
from namepaths.nets import net_of

PLAIN, PART, SORT, OTHER_PART, LATER_SORT = range(5)


def a_net():
    """Three scopes, each kind of thing, three questions; things 2 and 4 have the sorts 0 and 2."""
    return net_of(
        [([("up", "to", 1)], []), ([], []), ([], [])],
        [("plain", 0), ("part", 1), ("sort", 0), ("part", 2), ("sort", 2)],
        [(0, 0, ("x",)), (0, 0, ("x",)), (0, 0, ("x", "y"))])


class Inside(unittest.TestCase):
    def of_sort(self, answer):
        return inside(a_net(), [answer, ("thing", PART), None], SORT)

    def test_a_plain_thing(self):
        self.assertEqual(inside(a_net(), [None] * 3, PLAIN), ("no", 0))

    def test_a_part(self):
        self.assertEqual(inside(a_net(), [None] * 3, PART), ("to", 1))
        self.assertEqual(inside(a_net(), [None] * 3, OTHER_PART), ("to", 2))

    def test_a_sort_whose_question_is_open(self):
        self.assertEqual(self.of_sort(None), ("open", 0))
        self.assertEqual(inside(a_net(), [("thing", PART), ("thing", PART), None], LATER_SORT), ("open", 2))

    def test_a_sort_that_is_a_part(self):
        self.assertEqual(self.of_sort(("thing", PART)), ("to", 1))
        self.assertEqual(self.of_sort(("thing", OTHER_PART)), ("to", 2))

    def test_a_sort_that_is_no_part(self):
        self.assertEqual(self.of_sort(("thing", PLAIN)), ("no", 0))

    def test_a_sort_that_has_a_sort(self):
        for answer in (None, ("thing", PART), ("none", 0)):
            answers = [("thing", LATER_SORT), None, answer]
            self.assertEqual(inside(a_net(), answers, SORT), ("no", 0), answer)

    def test_a_sort_of_itself(self):
        self.assertEqual(self.of_sort(("thing", SORT)), ("no", 0))

    def test_a_sort_that_is_none_or_torn(self):
        # The number behind none and torn is a place in the path, no thing's number.
        for answer in (("none", 0), ("none", 1), ("torn", 0), ("torn", 1)):
            self.assertEqual(self.of_sort(answer), ("no", 0), answer)


class Goal(unittest.TestCase):
    def by(self, answer, question=0):
        answers = [None, None, None]
        answers[question] = answer
        return goal(a_net(), answers, ("up", "by", question))

    def test_a_step_to(self):
        for scope in range(3):
            self.assertEqual(goal(a_net(), [None] * 3, ("up", "to", scope)), ("to", scope))

    def test_a_step_by_an_open_question(self):
        for question in range(3):
            self.assertEqual(self.by(None, question), ("open", question))

    def test_a_step_by_a_plain_thing(self):
        self.assertEqual(self.by(("thing", PLAIN)), ("no", 0))

    def test_a_step_by_a_part(self):
        self.assertEqual(self.by(("thing", PART)), ("to", 1))
        self.assertEqual(self.by(("thing", OTHER_PART), 1), ("to", 2))

    def test_a_step_by_a_thing_with_an_open_sort(self):
        self.assertEqual(self.by(("thing", LATER_SORT)), ("open", 2))
        self.assertEqual(self.by(("thing", SORT), 1), ("open", 0))

    def test_a_step_by_a_thing_with_a_sort(self):
        for answer, due in (
                (("thing", PART), ("to", 1)), (("thing", OTHER_PART), ("to", 2)), (("thing", PLAIN), ("no", 0)),
                (("thing", SORT), ("no", 0)), (("none", 1), ("no", 0)), (("torn", 1), ("no", 0))):
            answers = [("thing", LATER_SORT), None, answer]
            self.assertEqual(goal(a_net(), answers, ("elder", "by", 0)), due, answer)

    def test_a_step_by_a_thing_whose_sort_is_the_steps_question(self):
        self.assertEqual(self.by(("thing", SORT)), ("no", 0))

    def test_a_step_by_none_or_torn(self):
        for answer in (("none", 0), ("none", 1), ("torn", 0), ("torn", 1)):
            self.assertEqual(self.by(answer), ("no", 0), answer)

    def test_the_label_means_nothing(self):
        for label in ("a", "up", "elder", "to", "by"):
            self.assertEqual(goal(a_net(), [None] * 3, (label, "to", 2)), ("to", 2))
            self.assertEqual(goal(a_net(), [None] * 3, (label, "by", 2)), ("open", 2))


class Kept(unittest.TestCase):
    def test_asking_changes_nothing(self):
        net, answers = a_net(), [("thing", LATER_SORT), ("none", 0), None]
        due = copy.deepcopy((net, answers))
        for thing in range(5):
            inside(net, answers, thing)
        for question in range(3):
            goal(net, answers, ("up", "by", question))
        self.assertEqual((net, answers), due)

    def test_kinds(self):
        for told in (inside(a_net(), [None] * 3, SORT), goal(a_net(), [None] * 3, ("up", "to", 1))):
            self.assertIs(told.__class__, tuple)


if __name__ == "__main__":
    unittest.main()
