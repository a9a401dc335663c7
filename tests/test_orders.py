"""Point 4: what follows from pairs, chains, rings, judges."""

import random
import unittest

from namepaths.errors import Ring
from namepaths.orders import chain, judge, order_of


def closure(pairs):
    """What follows, worked out in another way: pairs are joined until nothing new comes."""
    known = set(pairs)
    while True:
        more = {(a, d) for a, b in known for c, d in known if b == c} - known
        if not more:
            return known
        known |= more


def label(number):
    return "x" + "abcdefghij"[number // 10] + "abcdefghij"[number % 10]


def long_chain(pairs):
    """So many pairs, in a row."""
    return [(label(number), label(number + 1)) for number in range(pairs)]


def some_pairs(chance):
    labels = "abcdefg"[:chance.randint(1, 7)]
    return [(chance.choice(labels), chance.choice(labels)) for _ in range(chance.randint(0, 9))]


class Follows(unittest.TestCase):
    def test_no_pairs(self):
        self.assertEqual(order_of([]), [])

    def test_a_pair(self):
        self.assertEqual(order_of([("own", "up")]), [("own", "up")])

    def test_by_way_of_others(self):
        self.assertEqual(
            order_of([("c", "d"), ("b", "c"), ("a", "b")]),
            [("a", "b"), ("a", "c"), ("a", "d"), ("b", "c"), ("b", "d"), ("c", "d")])

    def test_told_twice(self):
        self.assertEqual(order_of([("a", "b"), ("a", "b"), ("b", "c"), ("a", "c")]),
                         [("a", "b"), ("a", "c"), ("b", "c")])

    def test_labels_that_begin_others(self):
        self.assertEqual(
            order_of([("allon", "up"), ("all", "allon"), ("a", "all"), ("al", "up")]),
            [("a", "all"), ("a", "allon"), ("a", "up"), ("al", "up"),
             ("all", "allon"), ("all", "up"), ("allon", "up")])
        self.assertEqual(order_of([("ab", "c"), ("a", "bc")]), [("a", "bc"), ("ab", "c")])

    def test_forty_pairs_in_any_order(self):
        labels = [label(number) for number in range(41)]
        due = [(labels[i], labels[j]) for i in range(41) for j in range(i + 1, 41)]
        pairs = long_chain(40)
        self.assertEqual(order_of(pairs), due)
        self.assertEqual(order_of(pairs[::-1]), due)
        for seed in range(10):
            random.Random(seed).shuffle(pairs)
            self.assertEqual(order_of(pairs), due)

    def test_what_is_given_is_the_askers_own(self):
        pairs = [("b", "c"), ("a", "b")]
        given = order_of(pairs)
        self.assertEqual(pairs, [("b", "c"), ("a", "b")])
        given.clear()
        self.assertEqual(pairs, [("b", "c"), ("a", "b")])
        self.assertEqual(order_of(pairs), [("a", "b"), ("a", "c"), ("b", "c")])
        sorted_one = [("a", "b")]
        order_of(sorted_one).append(("x", "y"))
        self.assertEqual(sorted_one, [("a", "b")])


class Rings(unittest.TestCase):
    def ring_of(self, pairs):
        with self.assertRaises(Ring) as caught:
            order_of(pairs)
        ring = caught.exception.ring
        self.check_ring(ring, pairs)
        return ring

    def check_ring(self, ring, pairs):
        self.assertIsInstance(ring, list)
        self.assertTrue(ring)
        self.assertEqual(len(set(ring)), len(ring))
        for better, worse in zip(ring, ring[1:] + ring[:1]):
            self.assertIn((better, worse), pairs)

    def test_better_than_itself(self):
        self.assertEqual(self.ring_of([("a", "b"), ("b", "b")]), ["b"])
        self.assertEqual(self.ring_of([("a", "a")]), ["a"])

    def test_ring_of_two(self):
        self.assertEqual(sorted(self.ring_of([("a", "b"), ("b", "a")])), ["a", "b"])

    def test_ring_of_many(self):
        pairs = long_chain(39) + [(label(39), label(0))]
        self.assertEqual(len(self.ring_of(pairs)), 40)

    def test_ring_behind_and_ahead_of_others(self):
        pairs = [("a", "m"), ("m", "n"), ("n", "o"), ("o", "m"), ("o", "z"), ("y", "z")]
        self.assertEqual(sorted(self.ring_of(pairs)), ["m", "n", "o"])

    def test_one_of_two_rings(self):
        pairs = [("a", "b"), ("b", "a"), ("b", "c"), ("c", "d"), ("d", "b"), ("d", "d")]
        self.ring_of(pairs)

    def test_pairs_stay_as_they_were(self):
        pairs = [("b", "a"), ("a", "b")]
        self.ring_of(pairs).clear()
        self.assertEqual(pairs, [("b", "a"), ("a", "b")])


class Chains(unittest.TestCase):
    def test_a_pair(self):
        self.assertEqual(chain([("a", "b")], "a", "b"), ["a", "b"])

    def test_by_way_of_others(self):
        self.assertEqual(chain([("c", "d"), ("a", "b"), ("b", "c")], "a", "d"), ["a", "b", "c", "d"])

    def test_not_backwards(self):
        self.assertIsNone(chain([("a", "b"), ("b", "c")], "c", "a"))

    def test_side_by_side(self):
        self.assertIsNone(chain([("a", "b"), ("a", "c")], "b", "c"))

    def test_to_itself_without_a_ring(self):
        self.assertIsNone(chain([("a", "b")], "a", "a"))
        self.assertIsNone(chain([("a", "b")], "b", "b"))
        self.assertIsNone(chain([("a", "b"), ("b", "b")], "a", "a"))

    def test_to_itself_by_a_ring(self):
        self.assertEqual(chain([("a", "a")], "a", "a"), ["a", "a"])
        self.assertEqual(chain([("a", "b"), ("b", "a")], "b", "b"), ["b", "a", "b"])

    def test_through_a_ring(self):
        pairs = [("a", "b"), ("b", "a"), ("b", "b"), ("b", "c")]
        self.assertEqual(chain(pairs, "a", "c"), ["a", "b", "c"])

    def test_labels_that_no_pair_has(self):
        for one, other in (("a", "x"), ("x", "a"), ("x", "x"), ("x", "y"), ("", "a")):
            self.assertIsNone(chain([("a", "b")], one, other))
        self.assertIsNone(chain([], "a", "a"))

    def test_labels_that_begin_others(self):
        self.assertIsNone(chain([("all", "up")], "allon", "up"))
        self.assertIsNone(chain([("allon", "up")], "all", "up"))

    def test_forty_pairs(self):
        pairs = long_chain(40)[::-1]
        self.assertEqual(chain(pairs, label(0), label(40)), [label(number) for number in range(41)])

    def test_what_is_given_is_the_askers_own(self):
        pairs = [("a", "b"), ("b", "c")]
        chain(pairs, "a", "c").clear()
        self.assertEqual(pairs, [("a", "b"), ("b", "c")])
        self.assertEqual(chain(pairs, "a", "c"), ["a", "b", "c"])


class Judges(unittest.TestCase):
    def test_what_follows(self):
        better = judge([("a", "b"), ("b", "c")])
        for one in "abcx":
            for other in "abcx":
                self.assertIs(better(one, other), (one, other) in (("a", "b"), ("a", "c"), ("b", "c")))

    def test_no_pairs(self):
        self.assertIs(judge([])("a", "a"), False)

    def test_a_ring_is_not_refused(self):
        better = judge([("a", "b"), ("b", "a"), ("b", "c")])
        self.assertIs(better("a", "a"), True)
        self.assertIs(better("b", "b"), True)
        self.assertIs(better("a", "c"), True)
        self.assertIs(better("c", "c"), False)
        self.assertIs(judge([("a", "a")])("a", "a"), True)

    def test_labels_that_begin_others(self):
        better = judge([("ab", "c")])
        self.assertIs(better("a", "bc"), False)
        self.assertIs(better("a", "c"), False)

    def test_a_later_change_of_the_pairs(self):
        pairs = [("a", "b")]
        better = judge(pairs)
        pairs.append(("b", "c"))
        self.assertIs(better("b", "c"), False)
        self.assertIs(better("a", "c"), False)
        pairs.clear()
        self.assertIs(better("a", "b"), True)

    def test_judges_know_nothing_of_one_another(self):
        first, second = judge([("a", "b")]), judge([("b", "a")])
        self.assertIs(first("a", "b"), True)
        self.assertIs(second("a", "b"), False)


class AnyPairs(unittest.TestCase):
    """Pairs of all shapes, held against what follows as worked out in another way."""

    def check_chain(self, labels, pairs, one, other):
        self.assertGreaterEqual(len(labels), 2)
        self.assertEqual((labels[0], labels[-1]), (one, other))
        self.assertEqual(len(set(labels[1:])), len(labels) - 1)
        self.assertEqual(len(set(labels[:-1])), len(labels) - 1)
        for pair in zip(labels, labels[1:]):
            self.assertIn(pair, pairs)

    def check_pairs(self, pairs):
        kept = list(pairs)
        known = closure(pairs)
        better = judge(pairs)
        for one in "abcdefgh":
            for other in "abcdefgh":
                self.assertIs(better(one, other), (one, other) in known)
                labels = chain(pairs, one, other)
                if (one, other) in known:
                    self.check_chain(labels, pairs, one, other)
                else:
                    self.assertIsNone(labels)
        self.check_order(pairs, known)
        self.assertEqual(pairs, kept)

    def check_order(self, pairs, known):
        if not any(one == other for one, other in known):
            self.assertEqual(order_of(pairs), sorted(known))
            return
        with self.assertRaises(Ring) as caught:
            order_of(pairs)
        Rings.check_ring(self, caught.exception.ring, pairs)

    def test_pairs_of_all_shapes(self):
        chance = random.Random(4)
        for _ in range(400):
            self.check_pairs(some_pairs(chance))


if __name__ == "__main__":
    unittest.main()
