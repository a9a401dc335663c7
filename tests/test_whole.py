"""The whole: programs from their texts to what their names mean, their ways, waits and rings; all rows of point 3."""

import random
import unittest

from namepaths.anew import renamed
from namepaths.desk import Desk
from namepaths.errors import Caught, PathError, Tangled
from namepaths.finds import find, trail
from namepaths.gaps import may_stand
from namepaths.house import House
from namepaths.laying import net_by
from namepaths.rings import ring_of, waits
from namepaths.still import still
from namepaths.tables import usual
from namepaths.texts import read, written
from namepaths.ways import found_ways
from namepaths.worth import hidden_ways, hides, seen_ways
from some_programs import some_program

TEXT = " ; ".join((
    "part open base ( thing open size ; thing own key ; part open inner ( thing open deep ) )",
    "part open shape ( elder base ; thing open name ; ask key ; ask size ; ask up )",
    "part own art ( all on shape ; one own width from base.size ; thing open size ; ask size ; ask name ; ask width )",
    "part own shop ( elder art ; ask size ; ask name ; let size of base ; ask size.inner.deep ; ask size.key )",
    "one own loop from round.a",
    "one open round from loop",
    "ask loop",
    "ask art.name",
    "ask shop.width",
))

# Each question of the text, in its order: what it means.
MEANINGS = (
    "thing 0",      # elder base
    "none 0",       # ask key: had from an elder, but its own
    "thing 1",      # ask size
    "none 0",       # ask up
    "thing 5",      # all on shape
    "thing 1",      # width from base.size
    "thing 8",      # ask size: art's own one hides that of shape
    "thing 6",      # ask name
    "thing 1",      # ask width
    "thing 7",      # elder art
    "thing 8",      # ask size
    "thing 6",      # ask name: handed on by art
    "thing 0",      # let size of base
    "thing 4",      # ask size.inner.deep: behind the let
    "none 1",       # ask size.key
    "open",         # loop
    "open",         # round
    "open",         # ask loop
    "thing 6",      # ask art.name
    "none 1",       # ask shop.width: art's own
)


class FromTextToMeaning(unittest.TestCase):
    def made(self):
        desk = Desk()
        self.assertEqual(desk.say("program " + TEXT), "ok")
        return desk

    def test_what_each_name_means(self):
        desk = self.made()
        self.assertEqual(tuple(desk.say(f"mean {question}") for question in range(20)), MEANINGS)
        self.assertEqual(desk.say("net"), "7 11 20")

    def test_ways(self):
        desk = self.made()
        for question, ways in (
                (0, "3 step 0 , 0 told 0"), (1, "-"), (2, "3 step 1 , 1 told 0"), (7, "4 step 1 , 3 told 0"), (8, "4 told 0"),
                (10, "5 step 1 , 4 told 1"), (11, "5 step 1 , 4 step 1 , 3 told 0"),
                (13, "6 told 0 / 1 told 2 / 2 told 0"), (14, "6 told 0 / -"), (15, "0 told 5"), (17, "0 told 4"),
                (18, "0 told 2 / 4 step 1 , 3 told 0"), (19, "0 told 3 / -")):
            self.assertEqual(desk.say(f"ways {question}"), ways, question)

    def test_waits_and_the_ring(self):
        desk = self.made()
        self.assertEqual([desk.say(f"wait {question}") for question in range(20)],
                         ["-"] * 15 + ["16", "15", "15"] + ["-"] * 2)
        self.assertEqual(desk.say("ring"), "15 16")

    def test_the_ring_undone(self):
        desk = self.made()
        self.assertEqual(desk.say("untell 0 5"), "ok")
        self.assertEqual([desk.say(f"mean {question}") for question in (15, 16, 17)], ["none 0"] * 3)
        self.assertEqual(desk.say("ring"), "-")

    def test_named_anew(self):
        desk = self.made()
        ways = [desk.say(f"ways {question}") for question in range(20)]
        self.assertEqual(desk.say("anew 1 0 extent"), "ok")
        self.assertEqual(tuple(desk.say(f"mean {question}") for question in range(20)), MEANINGS)
        self.assertEqual([desk.say(f"ways {question}") for question in range(20)], ways)
        # In shape the name up is looked for in vain; a part that is called so would be found.
        with self.assertRaises(Caught) as taken:
            desk.say("anew 0 0 up")
        self.assertEqual((taken.exception.question, taken.exception.before), (3, [[]]))

    def test_by_its_modules(self):
        program = read(TEXT)
        self.assertEqual(written(program), TEXT)
        net = net_by(program)
        answers, turns = still(net, usual())
        self.assertEqual(tuple("open" if answer is None else "%s %s" % answer for answer in answers), MEANINGS)
        self.assertEqual(turns[15:18], [0, 0, 0])
        self.assertEqual(turns[0], 1)
        self.assertGreater(turns[10], turns[9])
        self.assertEqual(ring_of(net, answers, usual()), [15, 16])
        self.assertEqual(may_stand(net, answers, usual(), 6),
                         [("art", 7), ("base", 0), ("inner", 3), ("name", 6), ("shape", 5), ("shop", 9), ("size", 10)])


class ThePromise(unittest.TestCase):
    """Each row of point 3, of programs of all shapes."""

    def some_nets(self, seed, many):
        chance = random.Random(seed)
        made = 0
        while made < many:
            try:
                net = net_by(some_program(chance, ("a", "b", "c"), 3))
                answers = still(net, usual())[0]
            except PathError:
                continue
            if len(net[2]) > 2:
                made += 1
                yield chance, net, answers

    def test_names_have_ways_and_the_hidden_ones_come_with_what_hides_them(self):
        for chance, net, answers in self.some_nets(1, 60):
            for scope, state, path in net[2]:
                found = found_ways(net, answers, usual(), scope, state, path[0])
                seen, hidden = seen_ways(net, usual(), found), hidden_ways(net, usual(), found)
                self.assertEqual(sorted(seen + [way for way, by in hidden]), found)
                for way in seen:
                    self.assertFalse(any(hides(net, usual(), other, way) for other in found))
                for way, by in hidden:
                    self.assertIn(by, seen)
                    self.assertTrue(hides(net, usual(), by, way))

    def test_the_standstill_and_what_is_left_open(self):
        for chance, net, answers in self.some_nets(2, 100):
            waiting = waits(net, answers, usual())
            for question, answer in enumerate(answers):
                self.assertEqual(find(net, answers, usual(), question)[0], answer)
                if answer is None:
                    self.assertIsNone(answers[waiting[question]])
            ring = ring_of(net, answers, usual())
            self.assertEqual(ring == [], None not in answers)
            for place, question in enumerate(ring):
                self.assertEqual(waiting[question], ring[(place + 1) % len(ring)])

    def test_a_house_has_the_answers_of_its_net_begun_anew(self):
        for chance, net, answers in self.some_nets(3, 40):
            house = House(net, usual())
            for _ in range(10):
                scope = chance.randrange(len(house.net()[0]))
                try:
                    if chance.random() < 0.5:
                        house.tell(scope, ("open", chance.choice("abc"), "by", chance.randrange(len(net[2]))))
                    else:
                        house.step(scope, ("elder", "by", chance.randrange(len(net[2]))))
                    house.untell(scope, 0)
                except PathError:
                    pass
                self.assertEqual(house.answers(), still(house.net(), usual())[0])
                self.assertEqual(house.answers(), House(house.net(), usual()).answers())

    def test_a_telling_named_anew_changes_no_answer_and_no_way(self):
        for chance, net, answers in self.some_nets(4, 60):
            for scope, (steps, tellings) in enumerate(net[0]):
                for index in range(len(tellings)):
                    try:
                        new = renamed(net, usual(), scope, index, chance.choice(("a", "new")))
                    except (Caught, Tangled):
                        continue
                    self.assertEqual(still(new, usual())[0], answers)
                    for question in range(len(answers)):
                        self.assertEqual(trail(new, answers, usual(), question),
                                         trail(net, answers, usual(), question))

    def test_what_may_stand_at_a_gap_is_answered_by_a_thing(self):
        for chance, net, answers in self.some_nets(5, 40):
            scope = chance.randrange(len(net[0]))
            standing = may_stand(net, answers, usual(), scope)
            for name in ("a", "b", "c"):
                house = House(net, usual())
                number = house.ask(scope, (name,))
                answer = house.answers()[number]
                due = [pair[1] for pair in standing if pair[0] == name]
                self.assertEqual(due, [answer[1]] if answer is not None and answer[0] == "thing" else [])


if __name__ == "__main__":
    unittest.main()
