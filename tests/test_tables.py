"""Points 5 and 6: tables made and refused, the usual table."""

import copy
import itertools
import unittest

from namepaths.errors import NoName, NoPlace, PathError, Ring, TooGreat, Twice
from namepaths.tables import has_end, next_state, table_of, usual

LETTERS = "abcdefghijklmnopqrstuvwxyz"
NO_NAMES = ("", "abcdefghi", "Up", "up2", "u p", " up", "up\n", "\u00e4", "up.own")
FAR = 10 ** 3999


def goes_of(count):
    return [(LETTERS[number], 0) for number in range(count)]


def ends_of(count):
    return [LETTERS[number] for number in range(count)]


def pairs_of(count):
    return [("x" + LETTERS[number // 26] + LETTERS[number % 26], "up") for number in range(count)]


def refusal(states, inner, pairs):
    try:
        table_of(states, inner, pairs)
    except PathError as error:
        return error
    return None


class Made(unittest.TestCase):
    def test_a_table(self):
        states = [([("up", 0), ("all", 1)], ["own", "let"]), ([], ["open"])]
        self.assertEqual(
            table_of(states, 1, [("own", "up"), ("let", "own"), ("let", "own")]),
            ([([("all", 1), ("up", 0)], ["let", "own"]), ([], ["open"])], 1,
             [("let", "own"), ("let", "up"), ("own", "up")]))

    def test_the_least_table(self):
        self.assertEqual(table_of([([], [])], 0, []), ([([], [])], 0, []))

    def test_kinds(self):
        table = table_of([([("b", 0), ("a", 0)], ["d", "c"])], 0, [("c", "a")])
        self.assertIsInstance(table, tuple)
        states, inner, order = table
        self.assertIsInstance(states, list)
        self.assertIsInstance(states[0], tuple)
        self.assertIsInstance(states[0][0], list)
        self.assertIsInstance(states[0][0][0], tuple)
        self.assertIsInstance(states[0][1], list)
        self.assertIsInstance(inner, int)
        self.assertIsInstance(order, list)
        self.assertIsInstance(order[0], tuple)

    def test_a_label_once_in_goes_and_once_in_ends(self):
        table = table_of([([("own", 0)], ["own"])], 0, [])
        self.assertEqual(table, ([([("own", 0)], ["own"])], 0, []))

    def test_a_label_in_many_states(self):
        states = [([("own", 1)], ["own"]), ([("own", 0)], ["own"])]
        self.assertEqual(table_of(states, 0, []), (states, 0, []))

    def test_pairs_may_have_labels_that_no_state_has(self):
        self.assertEqual(table_of([([], [])], 0, [("a", "b")]), ([([], [])], 0, [("a", "b")]))

    def test_order_of_what_is_handed_in_means_nothing(self):
        goes, ends, pairs = [("a", 0), ("b", 1), ("c", 0)], ["d", "e", "f"], [("d", "e"), ("e", "a"), ("f", "c")]
        due = table_of([(goes, ends), ([], [])], 0, pairs)
        for turned in itertools.permutations(range(3)):
            states = [([goes[i] for i in turned], [ends[i] for i in turned]), ([], [])]
            self.assertEqual(table_of(states, 0, [pairs[i] for i in turned]), due)


class Bounds(unittest.TestCase):
    def test_at_each_bound(self):
        table = table_of([(goes_of(8), ends_of(8))] * 8, 7, pairs_of(40))
        self.assertEqual(table, ([(goes_of(8), ends_of(8))] * 8, 7, pairs_of(40)))

    def test_forty_pairs_of_one_chain(self):
        labels = ["x" + LETTERS[number // 26] + LETTERS[number % 26] for number in range(41)]
        pairs = list(zip(labels, labels[1:]))[::-1]
        self.assertEqual(table_of([([], [])], 0, pairs)[2], list(itertools.combinations(labels, 2)))

    def test_forty_doubles(self):
        self.assertEqual(table_of([([], [])], 0, [("a", "b")] * 40), ([([], [])], 0, [("a", "b")]))

    def test_one_beyond(self):
        for parts in (
                ([([], [])] * 9, 0, []),
                ([(goes_of(9), [])], 0, []),
                ([([], []), (goes_of(9), [])], 0, []),
                ([([], ends_of(9))], 0, []),
                ([([], []), ([], []), ([], ends_of(9))], 0, []),
                ([([], [])], 0, pairs_of(41)),
                ([([], [])], 0, [("a", "b")] * 41)):
            self.assertIsInstance(refusal(*parts), TooGreat)


class EachRefusal(unittest.TestCase):
    def test_labels_that_are_no_names(self):
        for word in NO_NAMES:
            for parts in (
                    ([([(word, 0)], [])], 0, []),
                    ([([], [word])], 0, []),
                    ([([], []), ([("up", 0), (word, 0)], [])], 0, []),
                    ([([], []), ([], ["own", word])], 0, []),
                    ([([], [])], 0, [(word, "a")]),
                    ([([], [])], 0, [("a", "b"), ("a", word)])):
                self.assertIsInstance(refusal(*parts), NoName, (word, parts))

    def test_no_states(self):
        for inner in (0, 1, -1):
            self.assertIsInstance(refusal([], inner, []), NoPlace)

    def test_inner_that_is_no_states_number(self):
        for inner in (-1, -2, -3, 2, 3, FAR, -FAR):
            self.assertIsInstance(refusal([([], []), ([], [])], inner, []), NoPlace, inner < 0)

    def test_next_that_is_no_states_number(self):
        for number in (-1, -2, -3, 2, 3, FAR, -FAR):
            for states in ([([("up", number)], []), ([], [])], [([], []), ([("all", 0), ("up", number)], [])]):
                self.assertIsInstance(refusal(states, 0, []), NoPlace, number < 0)

    def test_last_state_is_a_place(self):
        self.assertIsNone(refusal([([("up", 1)], []), ([], [])], 1, []))

    def test_twice_in_goes(self):
        for goes in ([("up", 0), ("up", 0)], [("up", 0), ("all", 0), ("up", 1)]):
            self.assertIsInstance(refusal([(goes, []), ([], [])], 0, []), Twice)
            self.assertIsInstance(refusal([([], []), (goes, [])], 0, []), Twice)

    def test_twice_in_ends(self):
        for ends in (["own", "own"], ["own", "let", "own"]):
            self.assertIsInstance(refusal([([], ends)], 0, []), Twice)
            self.assertIsInstance(refusal([([], []), ([], ends)], 0, []), Twice)

    def test_ring(self):
        self.assertEqual(refusal([([], [])], 0, [("a", "a")]).ring, ["a"])
        error = refusal([([], [])], 0, [("a", "b"), ("b", "c"), ("c", "b")])
        self.assertIsInstance(error, Ring)
        self.assertEqual(sorted(error.ring), ["b", "c"])


class FirstRefusal(unittest.TestCase):
    """Of several refusals the first of point 5 is told, wherever each of them is."""

    # Each fault, in the order of point 5, where it may be: as (goes, ends), inner or pairs that are added.
    FAULTS = (
        (TooGreat, ((goes_of(9), []), ([], ends_of(9))), (), ([("y", "z")] * 41,)),
        (NoName, (([("Up", 0)], []), ([], ["Own"])), (), ([("A", "b")], [("a", "B")])),
        (NoPlace, (([("up", 99)], []), ([("up", -1)], [])), (99, -1), ()),
        (Twice, (([("up", 0), ("up", 0)], []), ([], ["own", "own"])), (), ()),
        (Ring, (), (), ([("a", "a")], [("p", "q"), ("q", "p")])),
    )

    def spots(self, fault):
        """Each way to put this fault into parts of a table."""
        kind, states, inners, pairs = fault
        return ([("state", state) for state in states] + [("inner", inner) for inner in inners]
                + [("pairs", added) for added in pairs])

    def parts_with(self, spots):
        states, inner, pairs = [([("up", 0)], ["own"])], 0, [("own", "up")]
        for where, what in spots:
            if where == "state":
                states = states + [what]
            elif where == "inner":
                inner = what
            else:
                pairs = pairs + what
        return states, inner, pairs

    def check_all_spots(self, faults):
        for spots in itertools.product(*[self.spots(fault) for fault in faults]):
            for turned in (spots, spots[::-1]):
                states, inner, pairs = self.parts_with(turned)
                for told in (states, states[::-1]):
                    self.assertIs(refusal(told, inner, pairs).__class__, faults[0][0], (told, inner, pairs))

    def test_one_or_more_at_once(self):
        for count in range(1, len(self.FAULTS) + 1):
            for faults in itertools.combinations(self.FAULTS, count):
                self.check_all_spots(faults)

    def test_two_in_one_place(self):
        self.assertIsInstance(refusal([([("Up", 99)] * 9, [])], 0, []), TooGreat)
        self.assertIsInstance(refusal([([("Up", 99), ("Up", 99)], [])], 0, []), NoName)
        self.assertIsInstance(refusal([([("up", 99), ("up", 99)], [])], 0, []), NoPlace)
        self.assertIsInstance(refusal([([], [])], 0, [("A", "A")]), NoName)
        self.assertIsInstance(refusal([([], [])], 0, [("a", "a")] * 41), TooGreat)

    def test_no_states_with_others(self):
        self.assertIsInstance(refusal([], 0, pairs_of(41)), TooGreat)
        self.assertIsInstance(refusal([], 0, [("a", "B")]), NoName)
        self.assertIsInstance(refusal([], 0, [("a", "a")]), NoPlace)


class Asked(unittest.TestCase):
    def test_next_state(self):
        table = table_of([([("up", 0), ("all", 2), ("allon", 1)], []), ([], ["up"]), ([("up", 0)], [])], 0, [])
        self.assertEqual([next_state(table, 0, label) for label in ("all", "allon", "up")], [2, 1, 0])
        self.assertEqual(next_state(table, 2, "up"), 0)
        self.assertIsNone(next_state(table, 1, "up"))
        self.assertIsNone(next_state(table, 2, "all"))
        for label in ("", "al", "alon", "upper", "own", "UP"):
            self.assertIsNone(next_state(table, 0, label), label)

    def test_has_end(self):
        table = table_of([([("up", 0)], ["own", "open"]), ([], [])], 0, [])
        self.assertIs(has_end(table, 0, "own"), True)
        self.assertIs(has_end(table, 0, "open"), True)
        for label in ("up", "", "o", "owner", "Own"):
            self.assertIs(has_end(table, 0, label), False, label)
        self.assertIs(has_end(table, 1, "own"), False)


class Kept(unittest.TestCase):
    """What is handed in stays, and nobody's later change reaches a table."""

    def parts(self):
        return [([("up", 0), ("all", 0)], ["own", "let"])], 0, [("own", "up"), ("let", "own")]

    def test_what_is_handed_in_stays_as_it_was(self):
        states, inner, pairs = self.parts()
        table_of(states, inner, pairs)
        self.assertEqual((states, inner, pairs), self.parts())

    def test_what_is_refused_stays_as_it_was(self):
        states = [([("up", 0), ("all", 0)], ["own", "let"])]
        pairs = [("own", "up"), ("up", "own")]
        self.assertIsInstance(refusal(states, 0, pairs), Ring)
        self.assertEqual(states, [([("up", 0), ("all", 0)], ["own", "let"])])
        self.assertEqual(pairs, [("own", "up"), ("up", "own")])

    def test_a_change_of_what_was_handed_in(self):
        states, inner, pairs = self.parts()
        table = table_of(states, inner, pairs)
        due = copy.deepcopy(table)
        states[0][0].clear()
        states[0][1].append("open")
        states.append(([], []))
        pairs.clear()
        self.assertEqual(table, due)

    def test_a_change_of_what_was_given(self):
        states, inner, pairs = [([("a", 0)], ["b"])], 0, [("b", "a")]
        table = table_of(states, inner, pairs)
        table[0][0][0].clear()
        table[0][0][1].clear()
        table[0].clear()
        table[2].clear()
        self.assertEqual((states, inner, pairs), ([([("a", 0)], ["b"])], 0, [("b", "a")]))
        self.assertEqual(table_of(states, inner, pairs), ([([("a", 0)], ["b"])], 0, [("b", "a")]))

    def test_states_handed_in_as_one_list_are_two(self):
        ends = ["own"]
        table = table_of([([], ends), ([], ends)], 0, [])
        table[0][0][1].clear()
        self.assertEqual(table[0][1], ([], ["own"]))

    def test_asking_changes_nothing(self):
        table = table_of(*self.parts())
        due = copy.deepcopy(table)
        next_state(table, 0, "up")
        next_state(table, 0, "none")
        has_end(table, 0, "own")
        self.assertEqual(table, due)


class Usual(unittest.TestCase):
    def test_states(self):
        self.assertEqual(usual()[0], [
            ([("all", 1), ("allon", 1), ("elder", 1), ("up", 0)], ["let", "open", "own"]),
            ([("allon", 1), ("elder", 1)], ["open"]),
            ([("up", 0)], ["let", "open", "own"])])

    def test_inner(self):
        self.assertEqual(usual()[1], 1)

    def test_order(self):
        self.assertEqual(usual()[2], [
            ("all", "up"), ("allon", "up"),
            ("elder", "all"), ("elder", "allon"), ("elder", "up"),
            ("let", "all"), ("let", "allon"), ("let", "elder"), ("let", "up"),
            ("open", "all"), ("open", "allon"), ("open", "elder"), ("open", "up"),
            ("own", "all"), ("own", "allon"), ("own", "elder"), ("own", "up")])

    def test_it_is_a_table(self):
        self.assertEqual(table_of(*usual()), usual())
        self.assertIsInstance(usual(), tuple)

    def test_what_is_done_to_one_changes_no_other(self):
        one, other, due = usual(), usual(), copy.deepcopy(usual())
        for goes, ends in one[0]:
            goes.append(("x", 0))
            ends.clear()
        one[0].pop()
        one[2].clear()
        self.assertEqual(other, due)
        self.assertEqual(usual(), due)


if __name__ == "__main__":
    unittest.main()
