"""Point 20, and the second row of point 3: for what each question waits, and the ring to which they come."""

import copy
import random
import unittest

from namepaths.finds import find
from namepaths.nets import net_of
from namepaths.rings import ring_of, waits
from namepaths.still import still
from namepaths.tables import usual
from namepaths.worth import hides
from namepaths.ways import found_ways
from some_nets import asking_net, some_table

PLAIN = ("plain", 0)


def net_of_waits(numbers):
    """A net whose questions wait each for the one of this number; None for one that is answered."""
    names = [one + other for one in "abcde" for other in "abcdefghijkl"]
    scopes = [([("up", "to", number + 1)] if number < 4 else [], []) for number in range(5)]
    for question, number in enumerate(numbers):
        telling = ("own", names[question], "thing", 0) if number is None else ("own", names[question], "by", number)
        scopes[question // 12][1].append(telling)
    return net_of(scopes, [PLAIN], [(0, 0, (names[question],)) for question in range(len(numbers))])


class Rings(unittest.TestCase):
    def check(self, net, waiting, ring, table=None):
        table = table or usual()
        answers = still(net, table)[0]
        kept = copy.deepcopy((net, answers, table))
        self.assertEqual(waits(net, answers, table), waiting)
        self.assertEqual(ring_of(net, answers, table), ring)
        self.assertEqual((net, answers, table), kept)

    def check_waits(self, numbers, ring):
        self.check(net_of_waits(numbers), numbers, ring)

    def test_no_questions(self):
        self.check_waits([], [])

    def test_none_is_open(self):
        self.check_waits([None], [])
        self.check_waits([None, None, None], [])

    def test_one_that_waits_for_itself(self):
        self.check_waits([0], [0])
        self.check_waits([None, 1, None], [1])

    def test_two(self):
        self.check_waits([1, 0], [0, 1])
        self.check_waits([None, 3, None, 1], [1, 3])

    def test_more_in_the_order_in_which_they_wait(self):
        self.check_waits([2, 0, 1], [0, 2, 1])
        self.check_waits([1, 2, 0], [0, 1, 2])
        self.check_waits([3, None, 0, 4, 2], [0, 3, 4, 2])
        self.check_waits(list(range(1, 60)) + [0], list(range(60)))
        self.check_waits([59] + list(range(59)), [0] + list(range(59, 0, -1)))

    def test_beginning_with_the_least_of_them(self):
        # From 0 it comes to 4, 5, 2, 3 and again to 4.
        self.check_waits([4, None, 3, 4, 5, 2], [2, 3, 4, 5])
        self.check_waits([3, 0, 1, 4, 5, 3], [3, 4, 5])
        self.check_waits([2, 0, 3, 2], [2, 3])

    def test_others_that_hang_on_them(self):
        self.check_waits([1, 1], [1])
        self.check_waits([0, 0, 1, 2], [0])
        self.check_waits([3, 2, 1, 1, 0, None], [1, 2])

    def test_of_several_rings_the_one_of_the_least_open_question(self):
        self.check_waits([1, 0, 3, 2], [0, 1])
        self.check_waits([4, 1, 3, 2, 3], [2, 3])
        self.check_waits([None, 2, 2, 3], [2])

    def test_one_that_is_answered_in_a_late_turn(self):
        net = net_of([([], [("own", "a", "thing", 0), ("own", "b", "by", 0), ("own", "c", "by", 2)])], [PLAIN],
                     [(0, 0, ("a",)), (0, 0, ("b",)), (0, 0, ("c",))])
        self.check(net, [None, None, 2], [2])

    def test_waits_of_each_kind(self):
        # Question 0 waits by a step, 1 by an inside, 2 by a telling.
        scopes = [([("elder", "by", 1)], [("own", "a", "thing", 0), ("own", "b", "by", 0)])]
        net = net_of(scopes, [("sort", 2)], [(0, 0, ("x",)), (0, 0, ("a", "x")), (0, 0, ("b",))])
        self.check(net, [1, 2, 0], [0, 1, 2])

    def test_answered_otherwise_than_by_a_thing(self):
        net = net_of([([], [("own", "a", "thing", 0), ("own", "a", "thing", 1)])], [PLAIN, PLAIN],
                     [(0, 0, ("a",)), (0, 0, ("b",))])
        self.check(net, [None, None], [])


class AnyNets(unittest.TestCase):
    def ring_worked_out(self, waiting):
        """Gone round so often that only what comes again and again is left."""
        left = [question for question, other in enumerate(waiting) if other is not None]
        if not left:
            return []
        question = left[0]
        for _ in waiting:
            question = waiting[question]
        ring = [question]
        while waiting[ring[-1]] != question:
            ring.append(waiting[ring[-1]])
        return min(ring[place:] + ring[:place] for place in range(len(ring)))

    def test_nets_of_all_shapes(self):
        chance = random.Random(23)
        longest = {}
        for _ in range(500):
            table = some_table(chance)
            net = asking_net(chance, table, 10)
            answers = still(net, table)[0]
            due = [None if answer is not None else find(net, answers, table, question)[1][2]
                   for question, answer in enumerate(answers)]
            self.assertEqual(waits(net, answers, table), due)
            ring = ring_of(net, answers, table)
            self.assertEqual(ring, self.ring_worked_out(due))
            longest[len(ring)] = longest.get(len(ring), 0) + 1
        self.assertGreater(longest[2], 10, longest)

    def test_each_open_one_waits_for_an_open_one_by_a_way_that_no_found_way_hides(self):
        chance = random.Random(24)
        count = 0
        for _ in range(300):
            table = some_table(chance)
            net = asking_net(chance, table, 10)
            answers = still(net, table)[0]
            for question, other in enumerate(waits(net, answers, table)):
                if other is None:
                    self.assertIsNotNone(answers[question])
                    continue
                self.assertIsNone(answers[other])
                at, way, same = find(net, answers, table, question)[1]
                self.assertEqual(same, other)
                if at == 0 and way:
                    scope, state, path = net[2][question]
                    for found in found_ways(net, answers, table, scope, state, path[0]):
                        self.assertFalse(hides(net, table, found, way))
                    count += 1
        self.assertGreater(count, 100)


class Kept(unittest.TestCase):
    def test_the_lists_are_the_askers_own(self):
        net = net_of_waits([1, 0, None])
        answers = still(net, usual())[0]
        given, ring = waits(net, answers, usual()), ring_of(net, answers, usual())
        given.clear()
        ring.append(7)
        self.assertEqual(waits(net, answers, usual()), [1, 0, None])
        self.assertEqual(ring_of(net, answers, usual()), [0, 1])
        given, ring = waits(net, answers, usual()), ring_of(net, answers, usual())
        answers[:] = []
        net[0].clear()
        self.assertEqual((given, ring), ([1, 0, None], [0, 1]))


if __name__ == "__main__":
    unittest.main()
