"""Points 21 and 22, the third row of point 3, point 8 for what a deed makes of the net: houses and their deeds."""

import copy
import random
import unittest

from namepaths.errors import NoName, NoPlace, PathError, Tangled, TooGreat
from namepaths.house import House
from namepaths.nets import net_of
from namepaths.still import still
from namepaths.tables import table_of, usual
from namepaths.walked import used, walked
from some_nets import LABELS, NAMES, asking_net, row_of_scopes, some_table, two_hundred
from worked_out import looked, standstill

PLAIN = ("plain", 0)
VAST = 10 ** 3999


def own(name, number):
    return ("own", name, "thing", number)


def by(name, number):
    return ("open", name, "by", number)


def ask(path, scope=0, state=0):
    return (scope, state, tuple(path.split(".")))


def empty_net():
    return net_of([([], [])], [], [])


def told_net():
    """Scope 0 tells a and b, scope 1 goes up to it and tells c by question 0; scope 2 stands alone."""
    return net_of([([], [own("a", 0), own("b", 1)]), ([("up", "to", 0)], [by("c", 0)]), ([], [own("d", 0)])],
                  [PLAIN, ("part", 0)],
                  [ask("a", 1), ask("c", 1), ask("d", 2), ask("x", 0)])


def seen_of(house):
    return house.net(), house.answers(), house.gone()


class Houses(unittest.TestCase):
    def check(self, house, table=None):
        """The house has the answers of its net begun anew."""
        self.assertEqual(house.answers(), standstill(house.net(), table or usual())[0])

    def refused(self, kind, house, deed, *arguments):
        before = copy.deepcopy(seen_of(house))
        with self.assertRaises(PathError) as taken:
            getattr(house, deed)(*arguments)
        self.assertIs(taken.exception.__class__, kind, (deed, arguments))
        self.assertEqual(seen_of(house), before)


class Begun(Houses):
    def test_net_answers_and_all_gone_through(self):
        house = House(told_net(), usual())
        self.assertEqual(house.net(), told_net())
        self.assertEqual(house.answers(), [("thing", 0), ("thing", 0), ("thing", 0), ("none", 0)])
        self.assertEqual(house.gone(), [0, 1, 2, 3])

    def test_a_net_without_anything(self):
        house = House(net_of([], [], []), usual())
        self.assertEqual(seen_of(house), (([], [], []), [], []))
        self.assertEqual(house.room(), 0)
        self.assertEqual(house.ask(0, ("x",)), 0)
        self.assertEqual(house.answers(), [("none", 0)])

    def test_a_state_that_the_table_lacks(self):
        for state in (3, 8, VAST):
            net = net_of([([], [])], [], [ask("x"), ask("x", 0, state)])
            self.assertRaises(NoPlace, House, net, usual())
        House(net_of([([], [])], [], [ask("x", 0, 2)]), usual())
        one = table_of([([], [])], 0, [])
        self.assertRaises(NoPlace, House, net_of([([], [])], [], [ask("x", 0, 1)]), one)

    def test_a_tangled_net(self):
        scopes = two_hundred() + [([], [])]
        House(net_of(scopes, [], [ask("x")]), usual())
        scopes[0][0].append(("up", "to", 5))
        self.assertRaises(Tangled, House, net_of(scopes, [], [ask("x")]), usual())

    def test_of_both_the_state_first(self):
        scopes = row_of_scopes((8, 8, 8))
        self.assertRaises(NoPlace, House, net_of(scopes, [], [ask("x"), ask("x", 0, 3)]), usual())


class Deeds(Houses):
    def test_tell(self):
        house = House(told_net(), usual())
        self.assertIsNone(house.tell(0, own("x", 1)))
        self.assertEqual(house.net()[0][0][1], [own("a", 0), own("b", 1), own("x", 1)])
        self.assertEqual(house.answers()[3], ("thing", 1))
        self.check(house)

    def test_step(self):
        house = House(told_net(), usual())
        self.assertIsNone(house.step(2, ("up", "to", 1)))
        self.assertIsNone(house.step(2, ("elder", "by", 0)))
        self.assertEqual(house.net()[0][2][0], [("up", "to", 1), ("elder", "by", 0)])
        self.check(house)

    def test_a_step_that_changes_an_answer(self):
        house = House(net_of([([], []), ([], [own("x", 0)])], [PLAIN], [ask("x")]), usual())
        house.step(0, ("up", "to", 1))
        self.assertEqual(house.answers(), [("thing", 0)])
        house.unstep(0, 0)
        self.assertEqual(house.answers(), [("none", 0)])

    def test_untell_the_first_a_middle_one_and_the_last(self):
        tellings = [own(name, 0) for name in "abcd"]
        for index in range(4):
            house = House(net_of([([], list(tellings))], [PLAIN], [ask(name) for name in "abcd"]), usual())
            self.assertIsNone(house.untell(0, index))
            self.assertEqual(house.net()[0][0][1], tellings[:index] + tellings[index + 1:])
            due = [("thing", 0)] * 4
            due[index] = ("none", 0)
            self.assertEqual(house.answers(), due)

    def test_unstep_the_first_a_middle_one_and_the_last(self):
        steps = [("up", "to", number) for number in (1, 2, 3)]
        scopes = [(list(steps), []), ([], [own("a", 0)]), ([], [own("b", 0)]), ([], [own("c", 0)])]
        for index in range(3):
            house = House(net_of(scopes, [PLAIN], [ask(name) for name in "abc"]), usual())
            self.assertIsNone(house.unstep(0, index))
            self.assertEqual(house.net()[0][0][0], steps[:index] + steps[index + 1:])
            due = [("thing", 0)] * 3
            due[index] = ("none", 0)
            self.assertEqual(house.answers(), due)

    def test_one_of_two_like_tellings(self):
        house = House(net_of([([], [own("a", 0), own("b", 0), own("a", 0)])], [PLAIN], []), usual())
        house.untell(0, 2)
        self.assertEqual(house.net()[0][0][1], [own("a", 0), own("b", 0)])

    def test_each_new_one_has_the_next_number(self):
        house = House(empty_net(), usual())
        self.assertEqual([house.room(), house.room()], [1, 2])
        self.assertEqual([house.thing("plain", 0), house.thing("part", 2)], [0, 1])
        self.assertEqual([house.ask(2, ("x",)), house.ask(0, ("x", "y"), 2)], [0, 1])
        self.assertEqual([house.thing("sort", 1), house.room()], [2, 3])
        self.assertEqual(house.net(), ([([], [])] * 4, [PLAIN, ("part", 2), ("sort", 1)],
                                       [(2, 0, ("x",)), (0, 2, ("x", "y"))]))
        self.check(house)

    def test_state_may_be_left_out_or_named(self):
        house = House(empty_net(), usual())
        house.ask(0, ("x",))
        house.ask(0, ("x",), state=1)
        self.assertEqual([question[1] for question in house.net()[2]], [0, 1])

    def test_a_question_with_an_answer_a_wait_and_a_ring(self):
        house = House(net_of([([], [own("a", 0), by("r", 0)])], [PLAIN], [ask("r")]), usual())
        self.assertEqual([house.ask(0, ("a",)), house.ask(0, ("r",)), house.ask(0, ("y",))], [1, 2, 3])
        self.assertEqual(house.answers(), [None, ("thing", 0), None, ("none", 0)])

    def test_a_row_of_deeds(self):
        house = House(empty_net(), usual())
        part = house.room()
        thing = house.thing("part", part)
        plain = house.thing("plain", 0)
        house.tell(0, own("far", thing))
        house.tell(part, ("open", "near", "thing", plain))
        question = house.ask(0, ("far", "near"))
        self.assertEqual(house.answers()[question], ("thing", plain))
        elder = house.ask(0, ("far",), 2)
        house.step(0, ("elder", "by", elder))
        other = house.ask(0, ("near",))
        self.assertEqual(house.answers(), [("thing", plain), ("thing", thing), ("thing", plain)])
        house.untell(0, 0)
        self.assertEqual(house.answers(), [("none", 0)] * 3)
        self.assertEqual(house.gone(), [question, elder, other])
        house.tell(0, own("far", thing))
        self.assertEqual(house.answers(), [("thing", plain), ("thing", thing), ("thing", plain)])

    def test_a_ring_begun_and_ended(self):
        house = House(net_of([([], [by("a", 1), by("b", 0), by("c", 1)])], [PLAIN], [ask("a"), ask("b"), ask("c")]),
                      usual())
        self.assertEqual(house.answers(), [None] * 3)
        house.untell(0, 1)
        self.assertEqual(house.answers(), [("none", 0)] * 3)
        house.tell(0, own("b", 0))
        self.assertEqual(house.answers(), [("thing", 0)] * 3)
        house.tell(0, by("b", 0))
        self.assertEqual(house.answers(), [None] * 3)


class GoneThroughAgain(Houses):
    def check_gone(self, house, due, deed, *arguments):
        getattr(house, deed)(*arguments)
        self.assertEqual(house.gone(), due, (deed, arguments))
        self.check(house)

    def test_by_a_walked_scope(self):
        house = House(told_net(), usual())
        self.check_gone(house, [0, 1], "tell", 1, own("y", 0))
        self.check_gone(house, [0, 1, 3], "tell", 0, own("y", 0))
        self.check_gone(house, [2], "tell", 2, own("y", 0))
        self.check_gone(house, [2], "untell", 2, 1)
        self.check_gone(house, [2], "step", 2, ("up", "to", 2))
        self.check_gone(house, [2], "unstep", 2, 0)

    def test_by_a_walked_scope_though_its_ways_are_hidden(self):
        house = House(net_of([([("up", "to", 1)], [own("x", 0)]), ([], [])], [PLAIN], [ask("x")]), usual())
        self.check_gone(house, [0], "tell", 1, own("x", 0))

    def test_by_no_question(self):
        house = House(told_net(), usual())
        house.room()
        self.check_gone(house, [], "tell", 3, own("x", 0))
        self.check_gone(house, [], "step", 3, ("up", "to", 0))

    def test_with_the_scopes_walked_ahead_of_the_deed(self):
        # The step makes question 0 walk scope 1, but it didn't so far: that counts from the next deed on.
        house = House(net_of([([], []), ([], [])], [PLAIN], [ask("x", 0), ask("x", 1)]), usual())
        self.check_gone(house, [0], "step", 0, ("up", "to", 1))
        self.check_gone(house, [0, 1], "tell", 1, own("x", 0))
        self.check_gone(house, [0], "unstep", 0, 0)
        self.check_gone(house, [1], "untell", 1, 0)

    def test_by_the_use_of_one_that_is(self):
        scopes = [([], [by("a", 1)]), ([], [own("b", 0)]), ([], [])]
        house = House(net_of(scopes, [PLAIN], [ask("a", 0), ask("b", 1), ask("a", 2)]), usual())
        self.check_gone(house, [0, 1], "tell", 1, own("z", 0))
        self.check_gone(house, [0], "tell", 0, own("z", 0))

    def test_by_use_over_several(self):
        # Each uses the next one, each in a scope of its own.
        scopes = [([], [by("a", number + 1)]) for number in range(5)] + [([], [own("a", 0)])]
        house = House(net_of(scopes, [PLAIN], [ask("a", number) for number in range(6)]), usual())
        for scope in (5, 3, 0):
            self.check_gone(house, list(range(scope + 1)), "tell", scope, own("z", 0))

    def test_by_the_use_of_a_sort_and_a_step(self):
        # Question 1 asks what is in a thing with the sort of 0; question 3 steps by 2.
        scopes = [([], [own("s", 0)]), ([], [own("a", 1)]), ([], []), ([("elder", "by", 2)], []), ([], [])]
        things = [("part", 4), ("sort", 0)]
        questions = [ask("s", 0), ask("a.x", 1), ask("e", 2), ask("x", 3), ask("a", 1)]
        house = House(net_of(scopes, things, questions), usual())
        self.check_gone(house, [0, 1], "tell", 0, own("z", 0))
        self.check_gone(house, [2, 3], "tell", 2, own("z", 0))
        self.check_gone(house, [1, 4], "tell", 1, own("z", 0))

    def test_a_ring_that_is_used(self):
        scopes = [([], [by("a", 1)]), ([], [by("b", 0)]), ([], [by("c", 1)]), ([], [])]
        house = House(net_of(scopes, [PLAIN], [ask("a", 0), ask("b", 1), ask("c", 2), ask("x", 3)]), usual())
        self.check_gone(house, [0, 1, 2], "tell", 0, own("z", 0))
        self.check_gone(house, [2], "tell", 2, own("z", 0))

    def test_a_question_a_room_and_a_thing_more(self):
        house = House(told_net(), usual())
        self.check_gone(house, [4], "ask", 1, ("c",))
        self.check_gone(house, [], "room")
        self.check_gone(house, [5], "ask", 2, ("a", "b"), 1)
        self.check_gone(house, [], "thing", "plain", 0)

    def test_behind_a_refusal_as_before_it(self):
        house = House(told_net(), usual())
        self.refused(NoName, house, "tell", 0, own("X", 0))
        self.assertEqual(house.gone(), [0, 1, 2, 3])
        house.tell(2, own("x", 0))
        self.refused(NoPlace, house, "tell", 3, own("x", 0))
        self.refused(NoPlace, house, "ask", 0, ("x",), 3)
        self.assertEqual(house.gone(), [2])
        house.room()
        self.refused(NoPlace, house, "untell", 0, 2)
        self.assertEqual(house.gone(), [])


class NoSuchPlace(Houses):
    """The first refusal: a scope or an index that isn't there."""

    def test_scopes(self):
        house = House(told_net(), usual())
        for scope in (-1, -3, 3, 40, VAST, -VAST):
            self.refused(NoPlace, house, "tell", scope, own("x", 0))
            self.refused(NoPlace, house, "step", scope, ("up", "to", 0))
            self.refused(NoPlace, house, "untell", scope, 0)
            self.refused(NoPlace, house, "unstep", scope, 0)
            self.refused(NoPlace, house, "ask", scope, ("x",))

    def test_indexes(self):
        house = House(told_net(), usual())
        for index in (-1, -2, 2, VAST, -VAST):
            self.refused(NoPlace, house, "untell", 0, index)
        for index in (-1, 1, 12, VAST, -VAST):
            self.refused(NoPlace, house, "unstep", 1, index)
        self.refused(NoPlace, house, "unstep", 0, 0)
        house.untell(2, 0)
        self.refused(NoPlace, house, "untell", 2, 0)

    def test_steps_and_tellings_have_indexes_of_their_own(self):
        house = House(net_of([([("up", "to", 0)] * 3, [own("a", 0)])], [PLAIN], []), usual())
        self.refused(NoPlace, house, "untell", 0, 1)
        house.unstep(0, 2)

    def test_ahead_of_all_others(self):
        full = net_of([([("up", "to", 0)] * 8, [own("a", 0)] * 12)], [PLAIN], [ask("x")] * 60)
        house = House(full, usual())
        for scope in (-1, 1):
            self.refused(NoPlace, house, "tell", scope, own("A", 9))
            self.refused(NoPlace, house, "step", scope, ("", "away", -1))
            self.refused(NoPlace, house, "ask", scope, ("x",) * 7)
            self.refused(NoPlace, house, "ask", scope, (), -1)


class WhatPointEightRefuses(Houses):
    def test_too_great(self):
        house = House(net_of([([("up", "to", 0)] * 7, [own("a", 0)] * 11)], [PLAIN] * 79, [ask("x")] * 59), usual())
        house.step(0, ("up", "to", 0))
        self.refused(TooGreat, house, "step", 0, ("up", "to", 0))
        house.tell(0, own("a", 0))
        self.refused(TooGreat, house, "tell", 0, own("a", 0))
        self.assertEqual(house.thing("plain", 0), 79)
        self.refused(TooGreat, house, "thing", "plain", 0)
        self.refused(TooGreat, house, "ask", 0, ("x",) * 7)
        self.assertEqual(house.ask(0, ("x",) * 6), 59)
        self.refused(TooGreat, house, "ask", 0, ("x",))
        house.unstep(0, 0)
        house.step(0, ("up", "to", 0))
        house.untell(0, 0)
        house.tell(0, own("a", 0))
        house.room()

    def test_forty_rooms(self):
        house = House(net_of([], [], []), usual())
        self.assertEqual([house.room() for _ in range(40)], list(range(40)))
        self.refused(TooGreat, house, "room")
        house.tell(39, ("own", "x", "thing", house.thing("part", 39)))
        self.assertEqual(house.ask(39, ("x",)), 0)
        self.assertEqual(house.answers(), [("thing", 0)])

    def test_no_name(self):
        house = House(told_net(), usual())
        for none in ("", "A", "ninechars", "a1", "a b", "\u00e4", "x" * 5000):
            self.refused(NoName, house, "tell", 0, (none, "x", "thing", 0))
            self.refused(NoName, house, "tell", 0, ("own", none, "thing", 0))
            self.refused(NoName, house, "step", 0, (none, "to", 0))
            self.refused(NoName, house, "ask", 0, (none,))
            self.refused(NoName, house, "ask", 0, ("x", none, "x"))
        self.refused(NoName, house, "ask", 0, ())

    def test_no_place(self):
        house = House(told_net(), usual())
        for kind in ("", "to", "plain", "none", "Thing"):
            self.refused(NoPlace, house, "tell", 0, ("own", "x", kind, 0))
        for kind in ("", "thing", "To"):
            self.refused(NoPlace, house, "step", 0, ("up", kind, 0))
        for kind in ("", "thing", "by", "Part"):
            self.refused(NoPlace, house, "thing", kind, 0)
        for number in (-1, -VAST, VAST):
            self.refused(NoPlace, house, "tell", 0, own("x", number))
            self.refused(NoPlace, house, "tell", 0, by("x", number))
            self.refused(NoPlace, house, "step", 0, ("up", "to", number))
            self.refused(NoPlace, house, "step", 0, ("up", "by", number))
            for kind in ("plain", "part", "sort"):
                self.refused(NoPlace, house, "thing", kind, number)
            self.refused(NoPlace, house, "ask", 0, ("x",), number)
        self.refused(NoPlace, house, "tell", 0, own("x", 2))
        self.refused(NoPlace, house, "tell", 0, by("x", 4))
        self.refused(NoPlace, house, "step", 0, ("up", "to", 3))
        self.refused(NoPlace, house, "step", 0, ("up", "by", 4))
        self.refused(NoPlace, house, "thing", "plain", 1)
        self.refused(NoPlace, house, "thing", "part", 3)
        self.refused(NoPlace, house, "thing", "sort", 4)

    def test_of_several_the_first(self):
        full = House(net_of([([("up", "to", 0)] * 8, [own("a", 0)] * 12)], [PLAIN] * 80, [ask("x")] * 60), usual())
        self.refused(TooGreat, full, "tell", 0, ("", "", "", -1))
        self.refused(TooGreat, full, "step", 0, ("", "", -1))
        self.refused(TooGreat, full, "thing", "", -1)
        self.refused(TooGreat, full, "ask", 0, ("",), -1)
        house = House(told_net(), usual())
        self.refused(TooGreat, house, "ask", 0, ("",) * 7, -1)
        self.refused(NoName, house, "tell", 0, ("own", "", "away", -1))
        self.refused(NoName, house, "step", 0, ("", "away", -1))
        self.refused(NoName, house, "ask", 0, (), -1)
        self.refused(NoName, house, "ask", 0, ("A",), 3)


class StatesAndTangles(Houses):
    def test_a_state_that_the_table_lacks(self):
        house = House(told_net(), usual())
        for state in (3, 4, VAST):
            self.refused(NoPlace, house, "ask", 0, ("x",), state)
        self.assertEqual(house.ask(0, ("x",), 2), 4)

    def test_a_step_behind_which_the_net_is_tangled(self):
        house = House(net_of(two_hundred() + [([], [])], [], [ask("x"), ask("x", 5)]), usual())
        self.refused(Tangled, house, "step", 0, ("up", "to", 5))
        self.refused(Tangled, house, "step", 1, ("up", "to", 5))
        house.step(0, ("up", "by", 1))
        self.refused(Tangled, house, "step", 5, ("up", "to", 0))
        house.unstep(3, 2)
        house.step(1, ("up", "to", 5))
        self.check(house)

    def test_a_question_whose_look_is_tangled(self):
        scopes = two_hundred() + [([], [])]
        scopes[0][0].append(("up", "to", 5))
        house = House(net_of(scopes, [], []), usual())
        self.refused(Tangled, house, "ask", 0, ("x",))
        self.refused(NoPlace, house, "ask", 0, ("x",), 3)
        self.assertEqual(house.ask(1, ("x",)), 0)
        self.assertEqual(house.ask(0, ("x",), 1), 1)

    def test_a_telling_behind_which_the_net_is_tangled(self):
        # With the telling question 1 is answered by a part, by which scope 0 has one beginning more.
        scopes = two_hundred() + [([], [])]
        scopes[0][0].append(("up", "by", 1))
        scopes[0][1].append(own("x", 0))
        house = House(net_of(scopes, [("part", 5)], [ask("x"), ask("a", 5)]), usual())
        self.refused(Tangled, house, "tell", 5, own("a", 0))
        house.tell(5, own("b", 0))
        self.check(house)

    def test_a_telling_taken_out_behind_which_the_net_is_tangled(self):
        scopes = two_hundred() + [([], [own("a", 0), own("a", 1)])]
        scopes[0][0].append(("up", "by", 1))
        scopes[0][1].append(own("x", 0))
        house = House(net_of(scopes, [("part", 5), PLAIN], [ask("x"), ask("a", 5)]), usual())
        self.assertEqual(house.answers()[1], ("torn", 0))
        self.refused(Tangled, house, "untell", 5, 1)
        house.untell(5, 0)
        self.assertEqual(house.answers()[1], ("thing", 1))

    def test_a_step_taken_out_behind_which_the_net_is_tangled(self):
        # Scope 5 has two elders, by which a is torn; without the one it is a part.
        scopes = two_hundred() + [([("elder", "to", 6), ("elder", "to", 7)], []),
                                  ([], [("open", "a", "thing", 0)]), ([], [("open", "a", "thing", 1)])]
        scopes[0][0].append(("up", "by", 1))
        house = House(net_of(scopes, [("part", 5), PLAIN], [ask("x"), ask("a", 5)]), usual())
        self.refused(Tangled, house, "unstep", 5, 1)
        house.unstep(5, 0)
        self.check(house)

    def test_just_two_hundred(self):
        scopes = row_of_scopes((1, 6, 8, 2))
        house = House(net_of(scopes, [], [ask("x")]), usual())
        house.step(3, ("up", "to", 4))
        self.refused(Tangled, house, "step", 3, ("up", "to", 4))

    def test_of_several_the_first(self):
        scopes = two_hundred() + [([], [])]
        house = House(net_of(scopes, [], [ask("x")]), usual())
        self.refused(NoName, house, "step", 0, ("Up", "to", 5))
        self.refused(NoPlace, house, "step", 0, ("up", "to", 6))
        self.refused(NoPlace, house, "step", 6, ("up", "to", 5))
        self.refused(Tangled, house, "step", 0, ("up", "to", 5))


class AnyDeeds(Houses):
    """Rows of deeds of all kinds, right and wrong ones, held against nets that are made and begun anew."""

    def some_deed(self, chance, net):
        scopes, things, questions = [len(part) for part in net]
        scope = chance.randint(-1, scopes) if chance.random() < 0.1 else chance.randrange(scopes)
        label = chance.choice(LABELS + ("Up",)) if chance.random() < 0.1 else chance.choice(LABELS)
        index = chance.randint(-1, 3) if chance.random() < 0.3 else 0
        kind = chance.choice(("tell", "tell", "step", "step", "untell", "unstep", "room", "thing", "ask"))
        if kind == "tell":
            meant = chance.choice(("thing", "by"))
            number = chance.randrange(max(1, things if meant == "thing" else questions))
            return "tell", scope, (label, chance.choice(NAMES), meant, number)
        if kind == "step":
            gone = chance.choice(("to", "by"))
            return "step", scope, (label, gone, chance.randrange(max(1, scopes if gone == "to" else questions)))
        if kind in ("untell", "unstep"):
            return kind, scope, index
        if kind == "thing":
            sort = chance.choice(("plain", "part", "sort"))
            return "thing", sort, chance.randrange({"plain": 1, "part": scopes, "sort": questions + 1}[sort])
        if kind == "ask":
            return "ask", scope, tuple(chance.choice(NAMES) for _ in range(chance.choice((1, 2, 3)))), index
        return ("room",)

    def made(self, net, deed):
        """The parts of the net behind the deed; None where a scope or an index isn't there."""
        scopes, things, questions = copy.deepcopy(net)
        if deed[0] == "room":
            return scopes + [([], [])], things, questions
        if deed[0] == "thing":
            return scopes, things + [deed[1:]], questions
        if not 0 <= deed[1] < len(scopes):
            return None
        if deed[0] == "ask":
            return scopes, things, questions + [(deed[1], deed[3], deed[2])]
        parts = scopes[deed[1]][1 if deed[0] in ("tell", "untell") else 0]
        if deed[0] in ("tell", "step"):
            parts.append(deed[2])
        elif not 0 <= deed[2] < len(parts):
            return None
        else:
            del parts[deed[2]]
        return scopes, things, questions

    def due(self, net, table, deed):
        """(refusal, None) or (None, net behind the deed)."""
        parts = self.made(net, deed)
        if parts is None:
            return NoPlace, None
        try:
            new = net_of(*parts)
        except PathError as error:
            return error.__class__, None
        if any(state >= len(table[0]) for scope, state, path in new[2]):
            return NoPlace, None
        if standstill(new, table)[2]:
            return Tangled, None
        return None, new

    def gone_worked_out(self, net, table, deed, new):
        if deed[0] in ("room", "thing"):
            return []
        if deed[0] == "ask":
            return [len(new[2]) - 1]
        answers = standstill(net, table)[0]
        found = [looked(net, answers, table, question) for question in range(len(answers))]
        gone = {question for question, look in enumerate(found) if deed[1] in look.scopes}
        for _ in found:
            gone |= {question for question, look in enumerate(found) if look.questions & gone}
        return sorted(gone)

    def test_rows_of_deeds(self):
        chance = random.Random(21)
        counts = {}
        for _ in range(40):
            table = some_table(chance)
            house = House(asking_net(chance, table), table)
            for _ in range(25):
                net = house.net()
                deed = self.some_deed(chance, net)
                refusal, new = self.due(net, table, deed)
                counts[deed[0], refusal] = counts.get((deed[0], refusal), 0) + 1
                if refusal is not None:
                    self.refused(refusal, house, *deed)
                    continue
                given = getattr(house, deed[0])(*deed[1:])
                number = {"room": 0, "thing": 1, "ask": 2}.get(deed[0])
                self.assertEqual(given, None if number is None else len(net[number]))
                self.assertEqual(house.net(), new)
                self.assertEqual(house.answers(), standstill(new, table)[0])
                self.assertEqual(house.gone(), self.gone_worked_out(net, table, deed, new))
        for deed in ("tell", "step", "untell", "unstep"):
            self.assertGreater(counts[deed, None], 20, counts)
            self.assertGreater(counts[deed, NoPlace], 1, counts)

    def test_what_isnt_gone_through_again_has_the_same_answer(self):
        chance = random.Random(22)
        changed = 0
        for _ in range(100):
            table = some_table(chance)
            net = asking_net(chance, table)
            house = House(net, table)
            scope = chance.randrange(len(net[0]))
            before = house.answers()
            house.tell(scope, own(chance.choice(NAMES), 0))
            for question, (old, new) in enumerate(zip(before, house.answers())):
                if old != new:
                    changed += 1
                    self.assertIn(question, house.gone())
                if question not in house.gone():
                    self.assertFalse(walked(net, before, table, question) >> scope & 1)
                    self.assertFalse(set(used(net, before, table, question)) & set(house.gone()))
            self.assertEqual(house.answers(), still(house.net(), table)[0])
        self.assertGreater(changed, 20)


class Kept(Houses):
    """What is handed in and what is given is not the house's own."""

    def test_net_and_table_handed_in_changed_behind(self):
        net, table = told_net(), usual()
        house = House(net, table)
        for steps, tellings in net[0]:
            steps.clear()
            tellings.clear()
        for part in net:
            part.clear()
        for goes, ends in table[0]:
            goes.clear()
            ends.clear()
        table[0].clear()
        table[2].clear()
        self.assertEqual(house.net(), told_net())
        self.assertEqual(house.ask(1, ("b",)), 4)
        self.assertEqual(house.answers()[4], ("thing", 1))
        house.tell(1, own("a", 1))
        self.assertEqual(house.answers()[0], ("thing", 1))
        self.check(house)

    def test_handed_in_is_not_changed(self):
        net, table = told_net(), usual()
        house = House(net, table)
        house.tell(0, own("x", 0))
        house.step(0, ("up", "to", 1))
        house.untell(2, 0)
        house.unstep(1, 0)
        house.room()
        house.thing("plain", 0)
        house.ask(0, ("x",))
        self.assertEqual((net, table), (told_net(), usual()))

    def test_what_is_given_changed_behind(self):
        house = House(told_net(), usual())
        due = copy.deepcopy(seen_of(house))
        net = house.net()
        for steps, tellings in net[0]:
            steps.append(("up", "to", 0))
            tellings.clear()
        for part in net:
            part.clear()
        house.answers().clear()
        house.gone().append(7)
        self.assertEqual(seen_of(house), due)

    def test_what_is_given_is_not_changed_by_later_deeds(self):
        house = House(told_net(), usual())
        given = seen_of(house)
        due = copy.deepcopy(given)
        house.tell(0, own("a", 1))
        house.unstep(1, 0)
        house.room()
        house.ask(0, ("x",))
        self.assertEqual(given, due)

    def test_kinds(self):
        house = House(told_net(), usual())
        net = house.net()
        self.assertEqual([part.__class__ for part in (net,) + net], [tuple, list, list, list])
        self.assertEqual([part.__class__ for part in (net[0][0],) + net[0][0]], [tuple, list, list])
        self.assertEqual([house.answers().__class__, house.gone().__class__], [list, list])


if __name__ == "__main__":
    unittest.main()
