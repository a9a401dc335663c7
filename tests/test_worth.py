"""Point 13: which way hides another one, the seen ways, the hidden ones with what hides them."""

import copy
import random
import unittest

from namepaths.errors import Tangled
from namepaths.nets import label_at, net_of
from namepaths.tables import table_of, usual
from namepaths.ways import found_ways, owed_ways
from namepaths.worth import hidden_ways, hides, seen_ways
from some_nets import NAMES, some_net, some_table, two_hundred


def step(scope, index):
    return (scope, "step", index)


def told(scope, index):
    return (scope, "told", index)


OWN, OPEN = told(0, 0), told(0, 1)
ELDER, ALL, ALLON, UP = step(0, 0), step(0, 1), step(0, 2), step(0, 3)
OTHER_UP = step(0, 4)


def a_net():
    """Four scopes, each with the steps elder, all, allon, up, up to the next one and the tellings own, open of x."""
    scopes = []
    for number in range(4):
        to = (number + 1) % 4
        scopes.append(([("elder", "to", to), ("all", "to", to), ("allon", "to", to), ("up", "to", to),
                        ("up", "to", to)],
                       [("own", "x", "thing", 0), ("open", "x", "thing", 0)]))
    return net_of(scopes, [("plain", 0)], [])


class Hides(unittest.TestCase):
    def check(self, better, worse):
        self.assertIs(hides(a_net(), usual(), better, worse), True)
        self.assertIs(hides(a_net(), usual(), worse, better), False)

    def check_neither(self, one, other):
        self.assertIs(hides(a_net(), usual(), one, other), False)
        self.assertIs(hides(a_net(), usual(), other, one), False)

    def test_at_the_first_mark(self):
        self.check([OWN], [ELDER, told(1, 0)])
        self.check([ELDER, told(1, 0)], [UP, told(1, 0)])
        self.check([ALL, told(1, 0)], [UP, told(1, 0)])

    def test_by_what_follows_from_the_pairs(self):
        self.check([OWN], [UP, told(1, 0)])

    def test_at_a_later_mark(self):
        self.check([UP, told(1, 0)], [UP, step(1, 3), told(2, 0)])
        self.check([UP, step(1, 0), told(2, 0)], [UP, step(1, 3), told(2, 0)])
        self.check([UP, step(1, 3), step(2, 1), told(3, 1)], [UP, step(1, 3), step(2, 3), told(3, 0)])

    def test_the_first_difference_alone_counts(self):
        self.check([ELDER, step(1, 3), told(2, 0)], [UP, told(1, 0)])
        self.check([ELDER, step(1, 3), step(2, 3), told(3, 0)], [UP, step(1, 0), told(2, 0)])

    def test_labels_of_which_neither_is_better(self):
        self.check_neither([OWN], [OPEN])
        self.check_neither([ALL, told(1, 0)], [ALLON, told(1, 0)])
        self.check_neither([UP, told(1, 0)], [UP, told(1, 1)])

    def test_neither_at_the_first_difference_and_no_further(self):
        self.check_neither([ALL, told(1, 0)], [ALLON, step(1, 3), told(2, 0)])
        self.check_neither([ALL, step(1, 0), told(2, 0)], [ALLON, step(1, 3), told(2, 0)])

    def test_one_label_at_two_marks(self):
        self.check_neither([UP, told(1, 0)], [OTHER_UP, told(1, 0)])
        self.check_neither([UP, told(1, 0)], [OTHER_UP, step(1, 3), told(2, 0)])

    def test_a_way_that_is_a_beginning_of_another_one(self):
        self.check_neither([UP], [UP, told(1, 0)])
        self.check_neither([UP, step(1, 0)], [UP, step(1, 0), step(2, 3), told(3, 0)])
        self.check_neither([], [UP, told(1, 0)])
        self.check_neither([], [OWN])

    def test_a_way_and_itself(self):
        for way in ([], [OWN], [UP, told(1, 0)]):
            self.check_neither(way, list(way))

    def test_it_hangs_on_the_table(self):
        turned = table_of(usual()[0], 1, [("up", "own")])
        self.assertIs(hides(a_net(), turned, [UP, told(1, 0)], [OWN]), True)
        self.assertIs(hides(a_net(), turned, [OWN], [UP, told(1, 0)]), False)
        bare = table_of(usual()[0], 1, [])
        self.assertIs(hides(a_net(), bare, [OWN], [UP, told(1, 0)]), False)


class SeenAndHidden(unittest.TestCase):
    def check(self, ways, seen, hidden):
        self.assertEqual(seen_ways(a_net(), usual(), ways), seen)
        self.assertEqual(hidden_ways(a_net(), usual(), ways), hidden)

    def test_no_ways(self):
        self.check([], [], [])

    def test_one_way(self):
        self.check([[UP, told(1, 0)]], [[UP, told(1, 0)]], [])

    def test_none_is_hidden(self):
        ways = [[OPEN], [OWN]]
        self.check(ways, ways, [])

    def test_in_the_order_handed_in(self):
        up, all_, allon = [UP, told(1, 0)], [ALL, told(1, 0)], [ALLON, told(1, 1)]
        self.check([up, allon, all_], [allon, all_], [(up, allon)])
        self.check([all_, up, allon], [all_, allon], [(up, all_)])
        self.check([allon, all_, up], [allon, all_], [(up, allon)])

    def test_hidden_ones_keep_their_order(self):
        far, near, best = [UP, step(1, 3), told(2, 0)], [OTHER_UP, told(1, 0)], [OWN]
        self.check([far, best, near], [best], [(far, best), (near, best)])
        self.check([near, far, best], [best], [(near, best), (far, best)])

    def test_by_is_a_seen_way(self):
        # Elder hides up, but is hidden itself.
        up, elder, own = [UP, told(1, 0)], [ELDER, told(1, 1)], [OWN]
        self.check([up, elder, own], [own], [(up, own), (elder, own)])
        self.check([elder, up, own], [own], [(elder, own), (up, own)])

    def test_by_is_one_that_hides_this_one(self):
        # Of the seen ways the first one hides nothing of the second branch, and the other way round.
        one, one_worse = [ALL, told(1, 0)], [ALL, step(1, 3), told(2, 0)]
        two, two_worse = [ALLON, step(1, 0), told(2, 0)], [ALLON, step(1, 3), told(2, 0)]
        self.check([one, two, two_worse, one_worse], [one, two], [(two_worse, two), (one_worse, one)])
        self.check([two_worse, two, one_worse, one], [two, one], [(two_worse, two), (one_worse, one)])

    def test_by_the_first_of_several_at_several_marks(self):
        late = [UP, step(1, 3), step(2, 3), told(3, 0)]
        near, nearer, also = [UP, step(1, 3), told(2, 0)], [UP, told(1, 0)], [UP, told(1, 1)]
        self.check([late, near, also, nearer], [also, nearer], [(late, also), (near, also)])
        one, other = [OPEN], [OWN]
        self.check([late, one, near, other], [one, other], [(late, one), (near, one)])

    def test_by_hides_at_the_first_mark_though_another_hides_at_a_later_one(self):
        # By b the near one hides the far one and comes first, but it is hidden itself.
        table = table_of([([("a", 0), ("b", 0), ("c", 0)], ["d"])], 0, [("a", "b"), ("d", "c")])
        net = net_of([([("a", "to", 2), ("b", "to", 1), ("c", "to", 1)], [("d", "x", "thing", 0)]),
                      ([("c", "to", 2)], [("d", "x", "thing", 0)]),
                      ([], [("d", "x", "thing", 0)])], [("plain", 0)], [])
        by_a, by_c, here = [step(0, 0), told(2, 0)], [step(0, 2), told(1, 0)], [told(0, 0)]
        near, far = [step(0, 1), told(1, 0)], [step(0, 1), step(1, 0), told(2, 0)]
        ways = [near, far, by_c, here, by_a]
        self.assertEqual(seen_ways(net, table, ways), [here, by_a])
        self.assertEqual(hidden_ways(net, table, ways), [(near, by_a), (far, by_a), (by_c, here)])

    def test_a_way_that_is_a_beginning_of_another_one(self):
        ways = [[UP, told(1, 0)], [UP], []]
        self.check(ways, ways, [])
        longer = [UP, step(1, 3), told(2, 0)]
        self.check([longer, [UP], [UP, told(1, 0)]], [[UP], [UP, told(1, 0)]], [(longer, [UP, told(1, 0)])])

    def test_as_many_ways_as_can_be(self):
        # 2400 ways; each up is worse than the own beside it, so that those of scope 0 hide all the others.
        scopes = two_hundred()
        for steps, tellings in scopes:
            tellings.extend([("own", "x", "thing", 0)] * 12)
        net = net_of(scopes, [("plain", 0)], [])
        ways = found_ways(net, [], usual(), 0, 0, "x")
        self.assertEqual(len(ways), 2400)
        self.assertEqual(seen_ways(net, usual(), ways), [[told(0, index)] for index in range(12)])
        self.assertEqual(hidden_ways(net, usual(), ways), [(way, [told(0, 0)]) for way in ways[:-12]])
        bare = table_of(usual()[0], 1, [])
        self.assertEqual(seen_ways(net, bare, ways), ways)


class AnyNets(unittest.TestCase):
    """Ways of nets of all shapes, held against the words of the point, worked out in another way."""

    def worked_out(self, net, table, one, other):
        place = 0
        while place < min(len(one), len(other)) and one[place] == other[place]:
            place += 1
        if place == min(len(one), len(other)):
            return False
        return (label_at(net, one[place]), label_at(net, other[place])) in table[2]

    def check(self, net, table, ways):
        for one in ways:
            for other in ways:
                self.assertIs(hides(net, table, one, other), self.worked_out(net, table, one, other))
        seen = [way for way in ways if not any(self.worked_out(net, table, other, way) for other in ways)]
        hidden = [(way, [by for by in seen if self.worked_out(net, table, by, way)][0])
                  for way in ways if way not in seen]
        self.assertEqual(seen_ways(net, table, ways), seen)
        self.assertEqual(hidden_ways(net, table, ways), hidden)
        return len(hidden)

    def some_ways(self, chance, net, answers, table):
        """Some of the ways of a look, found and owed ones, in any order."""
        scope, state = chance.randrange(len(net[0])), chance.randrange(len(table[0]))
        ways = found_ways(net, answers, table, scope, state, chance.choice(NAMES))
        ways += [way for way, question in owed_ways(net, answers, table, scope, state)]
        return chance.sample(ways, chance.randint(0, min(len(ways), 30)))

    def test_nets_of_all_shapes(self):
        chance = random.Random(13)
        hidden = 0
        for _ in range(500):
            net, answers = some_net(chance)
            table = some_table(chance)
            try:
                ways = self.some_ways(chance, net, answers, table)
            except Tangled:
                continue
            kept = copy.deepcopy((net, table, ways))
            hidden += self.check(net, table, ways)
            self.assertEqual((net, table, ways), kept)
        self.assertGreater(hidden, 100)


class Kept(unittest.TestCase):
    """What is given is the asker's own, with the lists in it."""

    def ways(self):
        return [[UP, told(1, 0)], [OWN], [ELDER, told(1, 0)], [OPEN]]

    def test_seen_ways_are_new_lists(self):
        ways = self.ways()
        seen = seen_ways(a_net(), usual(), ways)
        for way in seen:
            way.append(UP)
        seen.clear()
        self.assertEqual(ways, self.ways())

    def test_hidden_ways_are_new_lists(self):
        ways = self.ways()
        hidden = hidden_ways(a_net(), usual(), ways)
        self.assertEqual(hidden, [([UP, told(1, 0)], [OWN]), ([ELDER, told(1, 0)], [OWN])])
        hidden[0][0].clear()
        hidden[0][1].append(UP)
        self.assertEqual(hidden[1], ([ELDER, told(1, 0)], [OWN]))
        self.assertEqual(ways, self.ways())

    def test_a_change_of_what_was_handed_in(self):
        ways = self.ways()
        seen, hidden = seen_ways(a_net(), usual(), ways), hidden_ways(a_net(), usual(), ways)
        for way in ways:
            way.clear()
        self.assertEqual(seen, [[OWN], [OPEN]])
        self.assertEqual(hidden, [([UP, told(1, 0)], [OWN]), ([ELDER, told(1, 0)], [OWN])])

    def test_asking_changes_nothing(self):
        net, table, ways = a_net(), usual(), self.ways()
        hides(net, table, ways[0], ways[1])
        seen_ways(net, table, ways)
        hidden_ways(net, table, ways)
        self.assertEqual((net, table, ways), (a_net(), usual(), self.ways()))

    def test_kinds(self):
        self.assertEqual({way.__class__ for way in seen_ways(a_net(), usual(), self.ways())}, {list})
        self.assertEqual({part.__class__ for part in hidden_ways(a_net(), usual(), self.ways())}, {tuple})


if __name__ == "__main__":
    unittest.main()
