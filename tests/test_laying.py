"""Point 27: a program's net, and what is refused of it."""

import random
import unittest

from namepaths.errors import NoName, PathError, TooGreat
from namepaths.items import All, Ask, Elder, Let, One, Part, Thing
from namepaths.laying import net_by
from namepaths.nets import net_of
from some_programs import all_fields, nested, some_program

X = ("x",)


def up(scope):
    return ("up", "to", scope)


class Laid(unittest.TestCase):
    def check(self, program, scopes, things, questions):
        kept = all_fields(program)
        self.assertEqual(net_by(program), (scopes, things, questions))
        self.assertEqual(all_fields(program), kept)


class OneItem(Laid):
    def test_no_items(self):
        self.check([], [([], [])], [], [])

    def test_part(self):
        for reach in ("open", "own"):
            self.check([Part(reach, "a", [])], [([], [(reach, "a", "thing", 0)]), ([up(0)], [])], [("part", 1)], [])

    def test_thing(self):
        for reach in ("open", "own"):
            self.check([Thing(reach, "a")], [([], [(reach, "a", "thing", 0)])], [("plain", 0)], [])

    def test_thing_of_a_sort(self):
        self.check([Thing("own", "a", ("b", "c"))], [([], [("own", "a", "thing", 0)])], [("sort", 0)],
                   [(0, 0, ("b", "c"))])

    def test_let(self):
        self.check([Let("a")], [([], []), ([up(0)], [("let", "a", "thing", 0)])], [("plain", 0)], [])

    def test_let_of_a_sort(self):
        self.check([Let("a", X)], [([], []), ([up(0)], [("let", "a", "thing", 0)])], [("sort", 0)], [(0, 0, X)])

    def test_elder(self):
        self.check([Elder(("a", "b"))], [([("elder", "by", 0)], [])], [], [(0, 2, ("a", "b"))])

    def test_all(self):
        self.check([All(X)], [([("all", "by", 0)], [])], [], [(0, 2, X)])
        self.check([All(X, False)], [([("all", "by", 0)], [])], [], [(0, 2, X)])
        self.check([All(X, True)], [([("allon", "by", 0)], [])], [], [(0, 2, X)])

    def test_one(self):
        for reach in ("open", "own"):
            self.check([One(reach, "a", X)], [([], [(reach, "a", "by", 0)])], [], [(0, 2, X)])

    def test_ask(self):
        self.check([Ask(("a", "b", "c"))], [([], [])], [], [(0, 0, ("a", "b", "c"))])


class SeveralItems(Laid):
    def test_numbered_as_they_come(self):
        self.check([Thing("own", "a", X), Ask(X), Thing("open", "b"), Elder(X), One("own", "c", X), All(X, True)],
                   [([("elder", "by", 2), ("allon", "by", 4)],
                     [("own", "a", "thing", 0), ("open", "b", "thing", 1), ("own", "c", "by", 3)])],
                   [("sort", 0), ("plain", 0)],
                   [(0, 0, X), (0, 0, X), (0, 2, X), (0, 2, X), (0, 2, X)])

    def test_parts_within_parts(self):
        program = [Part("open", "a", [Part("own", "b", [Ask(X)]), Thing("open", "c"), Ask(X)]), Ask(X),
                   Part("own", "d", [])]
        self.check(program,
                   [([], [("open", "a", "thing", 0), ("own", "d", "thing", 3)]),
                    ([up(0)], [("own", "b", "thing", 1), ("open", "c", "thing", 2)]),
                    ([up(1)], []), ([up(0)], [])],
                   [("part", 1), ("part", 2), ("plain", 0), ("part", 3)],
                   [(2, 0, X), (1, 0, X), (0, 0, X)])

    def test_a_part_is_told_ahead_of_what_is_in_it(self):
        program = [Thing("own", "a", X), Part("open", "b", [Thing("own", "c", X)]), Thing("own", "d", X)]
        self.check(program,
                   [([], [("own", "a", "thing", 0), ("open", "b", "thing", 1), ("own", "d", "thing", 3)]),
                    ([up(0)], [("own", "c", "thing", 2)])],
                   [("sort", 0), ("part", 1), ("sort", 1), ("sort", 2)],
                   [(0, 0, X), (1, 0, X), (0, 0, X)])

    def test_lets_in_a_row(self):
        self.check([Let("a"), Let("b", X), Let("a"), Ask(X)],
                   [([], []), ([up(0)], [("let", "a", "thing", 0)]), ([up(1)], [("let", "b", "thing", 1)]),
                    ([up(2)], [("let", "a", "thing", 2)])],
                   [("plain", 0), ("sort", 0), ("plain", 0)],
                   [(1, 0, X), (3, 0, X)])

    def test_what_is_at_the_home_and_what_is_here_behind_a_let(self):
        program = [Let("a"), Thing("own", "b", X), Elder(X), All(X), One("open", "c", X), Ask(X), Part("own", "d", [])]
        self.check(program,
                   [([("elder", "by", 1), ("all", "by", 2)],
                     [("own", "b", "thing", 1), ("open", "c", "by", 3), ("own", "d", "thing", 2)]),
                    ([up(0)], [("let", "a", "thing", 0)]),
                    ([up(1)], [])],
                   [("plain", 0), ("sort", 0), ("part", 2)],
                   [(1, 0, X), (0, 2, X), (0, 2, X), (0, 2, X), (1, 0, X)])

    def test_lets_within_parts_and_what_is_here_behind_them(self):
        program = [Let("a"), Part("own", "p", [Ask(X), Let("b"), Ask(X), Thing("open", "t")]), Ask(X), Let("c"), Ask(X)]
        self.check(program,
                   [([], [("own", "p", "thing", 1)]),
                    ([up(0)], [("let", "a", "thing", 0)]),
                    ([up(1)], [("open", "t", "thing", 3)]),
                    ([up(2)], [("let", "b", "thing", 2)]),
                    ([up(1)], [("let", "c", "thing", 4)])],
                   [("plain", 0), ("part", 2), ("plain", 0), ("plain", 0), ("plain", 0)],
                   [(2, 0, X), (3, 0, X), (1, 0, X), (4, 0, X)])

    def test_the_items_are_those_of_the_program(self):
        part = Part("own", "a", [])
        self.check([part, part], [([], [("own", "a", "thing", 0), ("own", "a", "thing", 1)]), ([up(0)], []),
                                  ([up(0)], [])], [("part", 1), ("part", 2)], [])


class Bounds(unittest.TestCase):
    def refused(self, kind, program):
        kept = all_fields(program)
        with self.assertRaises(PathError) as taken:
            net_by(program)
        self.assertIs(taken.exception.__class__, kind)
        self.assertEqual(all_fields(program), kept)

    def test_within_thirty_others(self):
        net_by(nested(30, [Ask(X)]))
        net_by(nested(30, [Part("open", "a", [])]))
        net_by(nested(31, []))
        self.refused(TooGreat, nested(31, [Ask(X)]))
        self.refused(TooGreat, nested(31, [Part("open", "a", [])]))
        self.refused(TooGreat, nested(35, []))
        self.refused(TooGreat, [Ask(X)] + nested(32, []) + [Ask(X)])

    def test_very_deep(self):
        deep = nested(5000, [Ask(X)])
        self.assertRaises(TooGreat, net_by, deep)

    def test_two_hundred_items(self):
        # A net has no room for so many: what has two hundred is refused as well, by its net.
        for many in (200, 201, 1000):
            self.refused(TooGreat, [Ask(X)] * many)
            self.refused(TooGreat, [Part("own", "a", [Let("a")] * (many - 1))])

    def test_as_many_items_as_a_net_can_have(self):
        # 60 questions by asks, 80 things, 12 tellings of each of 40 scopes by parts with things.
        parts = [Part("own", "p", [Thing("own", "a")] * 9) for _ in range(8)]
        net = net_by(parts + [Ask(X)] * 60)
        self.assertEqual([len(part) for part in net], [9, 80, 60])
        self.refused(TooGreat, parts + [Ask(X)] * 61)
        self.refused(TooGreat, parts + [Thing("own", "a")])

    def test_scopes(self):
        rows = [Part("own", "p", [Part("own", "q", [])] * 3) for _ in range(9)]
        self.assertEqual(len(net_by(rows + [Let("a")] * 3)[0]), 40)
        self.refused(TooGreat, rows + [Let("a")] * 4)
        self.refused(TooGreat, rows + [Let("a")] * 3 + [Part("own", "p", [])])

    def test_steps(self):
        net_by([Elder(X)] * 8)
        self.refused(TooGreat, [Elder(X)] * 9)
        # A part has its step up as well.
        net_by([Part("own", "a", [All(X)] * 7)])
        self.refused(TooGreat, [Part("own", "a", [All(X)] * 8)])

    def test_tellings(self):
        net_by([Thing("own", "a")] * 6 + [One("own", "a", X)] * 6)
        self.refused(TooGreat, [Thing("own", "a")] * 7 + [One("own", "a", X)] * 6)

    def test_paths(self):
        for item in (lambda path: Ask(path), lambda path: Elder(path), lambda path: All(path),
                     lambda path: One("own", "a", path), lambda path: Let("a", path),
                     lambda path: Thing("own", "a", path)):
            net_by([item(("x",) * 6)])
            self.refused(TooGreat, [item(("x",) * 7)])
            self.refused(NoName, [item(())])
            for none in ("", "X", "ninechars", "a1", "a b", "\u00e4"):
                self.refused(NoName, [item((none,))])
                self.refused(NoName, [Part("own", "a", [item(("x", none, "x"))])])

    def test_names(self):
        for none in ("", "X", "ninechars", "a1", "a b", "\u00e4"):
            for item in (Part("own", none, []), Thing("own", none), Thing("open", none, X), Let(none), Let(none, X),
                         One("own", none, X)):
                self.refused(NoName, [item])
                self.refused(NoName, [Let("a"), Part("own", "a", [Ask(X), item])])

    def test_of_two_the_first(self):
        self.refused(TooGreat, nested(31, [Ask(())]))
        self.refused(TooGreat, [Ask(("",))] * 61)
        self.refused(TooGreat, [Thing("own", "A"), Ask(X + ("",) * 6)])
        self.refused(TooGreat, [Thing("own", "A")] * 201)
        self.refused(NoName, [Ask(X)] * 59 + [Ask(())])


class AnyPrograms(unittest.TestCase):
    """Programs of all shapes, held against the words of the point, worked out in another way."""

    def laid(self, program):
        scopes, things, questions = [([], [])], [], []

        def ask(scope, state, path):
            questions.append((scope, state, path))
            return len(questions) - 1

        def make(kind, number):
            things.append((kind, number))
            return len(things) - 1

        def sort(here, of):
            return make("plain", 0) if of is None else make("sort", ask(here, 0, of))

        def take(items, home, here):
            if not items:
                return
            item, rest = items[0], items[1:]
            kind = item.__class__.__name__
            steps, tellings = scopes[home]
            if kind == "Part":
                scopes.append(([up(here)], []))
                scope = len(scopes) - 1
                tellings.append((item.reach, item.name, "thing", make("part", scope)))
                take(item.inner, scope, scope)
            if kind == "Thing":
                tellings.append((item.reach, item.name, "thing", sort(here, item.of)))
            if kind == "Let":
                scopes.append(([up(here)], [("let", item.name, "thing", sort(here, item.of))]))
                here = len(scopes) - 1
            if kind in ("Elder", "All"):
                label = "elder" if kind == "Elder" else {True: "allon", False: "all"}[item.on]
                steps.append((label, "by", ask(home, 2, item.path)))
            if kind == "One":
                tellings.append((item.reach, item.name, "by", ask(home, 2, item.path)))
            if kind == "Ask":
                ask(here, 0, item.path)
            take(rest, home, here)

        take(program, 0, 0)
        return scopes, things, questions

    def test_programs_of_all_shapes(self):
        chance = random.Random(27)
        made = 0
        for _ in range(1000):
            program = some_program(chance, deep=chance.randint(0, 4))
            kept = all_fields(program)
            parts = self.laid(program)
            try:
                due = net_of(*parts)
            except TooGreat:
                self.assertRaises(TooGreat, net_by, program)
                continue
            self.assertEqual(net_by(program), due)
            self.assertEqual(all_fields(program), kept)
            made += len(parts[0]) > 3
        self.assertGreater(made, 50)


class Kept(unittest.TestCase):
    def test_the_net_is_a_new_one(self):
        program = [Part("own", "a", [Ask(X)]), Thing("own", "b")]
        net = net_by(program)
        for steps, tellings in net[0]:
            steps.clear()
            tellings.clear()
        for part in net:
            part.clear()
        due = ([([], [("own", "a", "thing", 0), ("own", "b", "thing", 1)]), ([up(0)], [])],
               [("part", 1), ("plain", 0)], [(1, 0, X)])
        self.assertEqual(net_by(program), due)
        net = net_by(program)
        program[0].inner.clear()
        program.clear()
        self.assertEqual(net, due)


if __name__ == "__main__":
    unittest.main()
