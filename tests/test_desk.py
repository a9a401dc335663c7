"""Point 30: the desk and its rows, what each answers, how it is refused."""

import random
import unittest

from namepaths.desk import Desk
from namepaths.errors import Caught, NoName, NoPlace, NoRow, NoText, PathError, Ring, Tangled, TooGreat, Twice
from namepaths.finds import trail
from namepaths.gaps import may_stand
from namepaths.house import House
from namepaths.laying import net_by
from namepaths.rings import ring_of, waits
from namepaths.still import still
from namepaths.tables import usual
from namepaths.tabletexts import show_table
from namepaths.texts import read, written
from some_nets import some_table
from some_programs import some_program

# Scopes: home 0, lib 1, behind let 2; things: lib 0, x 1, v 2; questions: of all 0, of z 1, of v 2, the asks from 3 on.
PROGRAM = ("program part open lib ( thing open x ) ; all lib ; one own z from lib.x ; let v of lib ; ask v.x ; ask x ;"
           " ask z.y ; ask q")
RING = "program one own a from b ; one own b from c ; one own c from b ; ask a"
# Six scopes, of which the first has a look with just two hundred beginnings by up.
TWO_HUNDRED = (["room"] * 5 + ["step 0 up to 1"] + ["step 1 up to 2"] * 6 + ["step 2 up to 3"] * 8
               + ["step 3 up to 4"] * 3)
NUMBERS = ("", "00", "01", "-1", "+1", "x", "1x", "10000", "\u0661", "1.", "0\n")


def desk(*rows):
    made = Desk()
    for row in rows:
        made.say(row)
    return made


class Rows(unittest.TestCase):
    def state_of(self, made):
        """All that can be asked of a desk: its net, answers, ways and waits, what was gone through, its gaps."""
        rows = ["net", "ring", "gone"]
        scopes, things, questions = [int(word) for word in made.say("net").split(" ")]
        for question in range(questions):
            rows += [f"mean {question}", f"ways {question}", f"wait {question}"]
        told = []
        for scope in range(scopes):
            for state in range(9):
                rows.append(f"gap {scope} {state}")
        for row in rows:
            try:
                told.append(made.say(row))
            except PathError as error:
                told.append(error.__class__)
        return told

    def refused(self, kind, made, *rows):
        before = self.state_of(made)
        for row in rows:
            with self.assertRaises(PathError, msg=row) as taken:
                made.say(row)
            self.assertIs(taken.exception.__class__, kind, row)
        self.assertEqual(self.state_of(made), before)

    def check(self, made, *rows):
        """Rows and what they answer, in turn."""
        for row, due in zip(rows[::2], rows[1::2]):
            self.assertEqual(made.say(row), due, row)


class Begun(Rows):
    def test_at_first(self):
        self.check(Desk(), "net", "1 0 0", "ring", "-", "gone", "-", "gap 0 0", "-", "gap 0 2", "-")
        self.refused(NoPlace, Desk(), "gap 0 3", "gap 1 0", "mean 0", "ways 0", "wait 0")

    def test_it_has_the_usual_table(self):
        made = desk("room", "thing plain 0", "tell 1 own a thing 0", "step 0 up to 1", "ask 0 0 a", "ask 0 1 a")
        self.check(made, "mean 0", "thing 0", "mean 1", "none 0")

    def test_two_desks(self):
        one, other = Desk(), Desk()
        one.say("room")
        self.check(one, "net", "2 0 0")
        self.check(other, "net", "1 0 0")


class Program(Rows):
    def test_ok(self):
        made = Desk()
        self.check(made, PROGRAM, "ok", "net", "3 3 7", "gone", "0 1 2 3 4 5 6")
        self.check(made, "program ask x", "ok", "net", "1 0 1", "mean 0", "none 0")

    def test_without_signs(self):
        self.check(desk(PROGRAM), "program ", "ok", "net", "1 0 0", "gone", "-")

    def test_no_row(self):
        self.refused(NoRow, desk(PROGRAM), "program", "Program ask x", " program ask x", "programask x")

    def test_no_text(self):
        self.refused(NoText, desk(PROGRAM), "program  ", "program ask", "program  ask x", "program ask x ",
                     "program ask X", "program x", "program ;", "program \n", "program " + "part own a ( " * 32)

    def test_too_great(self):
        self.refused(TooGreat, desk(PROGRAM), "program " + " ; ".join(["ask x"] * 61),
                     "program " + "part own a ( " * 31 + "ask x" + " )" * 31)

    def test_with_a_table_that_lacks_a_state(self):
        made = desk("table : own | 0 |", "program ask x ; thing own x")
        self.check(made, "mean 0", "thing 0")
        self.refused(NoPlace, made, "program elder x", "program one own a from b", "program all x")

    def tangled(self):
        """Parts that bring in each other by several ways: more than two hundred beginnings."""
        parts = [f"part open {name} ( all on a ; all on b ; all on c ; all on d ; all on e )" for name in "abcde"]
        return " ; ".join(parts)

    def test_tangled(self):
        made = desk(PROGRAM)
        self.refused(Tangled, made, "program " + self.tangled() + " ; all a ; all b ; all c ; all d ; all e ; ask x")
        self.check(made, "program " + self.tangled(), "ok")


class Table(Rows):
    def test_ok(self):
        made = desk("program part own a ( ask x ) ; thing own x")
        self.check(made, "mean 0", "thing 1", "room", "2", "gone", "-", "table up 0 : | 0 |", "ok", "mean 0", "none 0",
                   "gone", "0", "net", "3 2 1")
        self.check(made, "table : own | 0 |", "ok", "mean 0", "none 0", "table up 0 : own | 0 |", "ok",
                   "mean 0", "thing 1")

    def test_it_is_that_of_later_programs_and_deeds(self):
        made = desk("table up 1 : / : own | 0 |", "program part own a ( ask x ) ; thing own x ; ask x")
        self.check(made, "mean 0", "thing 1", "mean 1", "none 0", "ask 0 1 x", "2", "mean 2", "thing 1",
                   "gap 0 0", "-", "gap 0 1", "a 0 , x 1")
        self.refused(NoPlace, made, "ask 0 2 x", "gap 0 2")

    def test_no_row(self):
        self.refused(NoRow, desk(PROGRAM), "table", "tables : | 0 |", " table : | 0 |")

    def test_refused_as_point_29_tells(self):
        made = desk(PROGRAM)
        self.refused(NoText, made, "table ", "table  ", "table x", "table : | 00 |", "table : | 0 | ", "table  : | 0 |")
        self.refused(TooGreat, made, "table : a b c d e f g h i | 0 |")
        self.refused(NoName, made, "table : A | 0 |", "table :  | 0 |")
        self.refused(NoPlace, made, "table : | 1 |")
        self.refused(Twice, made, "table : a a | 0 |")
        self.refused(Ring, made, "table : | 0 | a a")

    def test_refused_as_a_house(self):
        made = desk(PROGRAM)
        self.refused(NoPlace, made, "table : | 0 |", "table : / : | 0 |")
        self.check(made, "table : / : / : | 0 |", "ok")

    def test_tangled(self):
        rows = ["room" for _ in range(4)]
        rows += [f"step {scope} far to {scope + 1}" for scope in range(3) for _ in range(8)]
        made = desk(*rows, "ask 0 0 x")
        self.check(made, "mean 0", "none 0")
        self.refused(Tangled, made, "table far 0 : | 0 |")
        self.check(made, "table far 1 : / : | 0 |", "ok", "mean 0", "none 0")

    def test_the_program_first_or_the_table_first(self):
        table, program = "table up 0 : own / : open / up 0 : | 1 |", "program part own a ( one own x from y ; ask x )"
        due = self.state_of(desk(table, program))
        self.assertEqual(self.state_of(desk(program, table)), due)
        self.refused(NoPlace, desk(program), "table : | 0 |")
        self.refused(NoPlace, desk("table : | 0 |"), program)

    def test_the_usual_one_written(self):
        due = self.state_of(desk(PROGRAM))
        self.assertEqual(self.state_of(desk("table " + show_table(usual()), PROGRAM)), due)


class Asking(Rows):
    def test_mean(self):
        made = desk(PROGRAM + " ; thing own w ; thing own w ; ask w ; ask lib.y ; ask lib.x.y")
        self.check(made, "mean 0", "thing 0", "mean 1", "thing 1", "mean 2", "thing 0", "mean 3", "thing 1",
                   "mean 4", "thing 1", "mean 5", "none 1", "mean 6", "none 0", "mean 7", "torn 0", "mean 8", "none 1",
                   "mean 9", "none 2")
        made = desk(RING)
        self.check(made, "mean 0", "open", "mean 3", "open")

    def test_ways(self):
        made = desk(PROGRAM)
        self.check(made, "ways 0", "0 told 0", "ways 3", "2 told 0 / 1 told 0",
                   "ways 4", "2 step 0 , 0 step 0 , 1 told 0", "ways 5", "2 step 0 , 0 told 1", "ways 6", "-")

    def test_ways_of_several(self):
        made = desk("program part open a ( thing open x ) ; part open b ( thing open x ) ; all a ; all b ; ask x ;"
                    " ask a.y")
        self.check(made, "ways 2", "0 step 0 , 1 told 0 ; 0 step 1 , 2 told 0", "mean 2", "torn 0",
                   "ways 3", "0 told 0 / -", "mean 3", "none 1")

    def test_ways_of_open_questions(self):
        self.check(desk(RING), "ways 0", "0 told 1", "ways 3", "0 told 0")
        self.check(desk("program elder x ; ask x"), "ways 0", "-", "ways 1", "-")

    def test_wait(self):
        self.check(desk(RING), "wait 0", "1", "wait 1", "2", "wait 2", "1", "wait 3", "0")
        self.check(desk(PROGRAM), "wait 0", "-", "wait 6", "-")

    def test_no_such_question(self):
        for row in ("mean", "ways", "wait"):
            self.refused(NoPlace, desk(PROGRAM), f"{row} 7", f"{row} 9999")
            self.refused(NoText, desk(PROGRAM), *[f"{row} {none}" for none in NUMBERS])
            self.refused(NoRow, desk(PROGRAM), row, f"{row} 0 ", f"{row} 0 0", f"{row}  0", f" {row} 0")

    def test_ring(self):
        self.check(desk(RING), "ring", "1 2")
        self.check(desk(PROGRAM), "ring", "-")
        self.check(desk("program ask x ; one own a from a"), "ring", "1")
        self.refused(NoRow, desk(RING), "ring ", "ring 0", " ring", "Ring")

    def test_gone(self):
        made = desk(RING)
        self.check(made, "gone", "0 1 2 3", "room", "1", "gone", "-", "tell 1 own x by 0", "ok", "gone", "-",
                   "ask 1 0 x", "4", "gone", "4", "untell 0 0", "ok", "gone", "0 1 2 3 4")
        self.refused(NoRow, made, "gone ", "gone 0", " gone", "gon")

    def test_gap(self):
        made = desk(PROGRAM)
        self.check(made, "gap 0 0", "lib 0 , x 1 , z 1", "gap 2 0", "lib 0 , v 2 , x 1 , z 1", "gap 1 1", "x 1",
                   "gap 0 2", "lib 0 , z 1", "gap 2 1", "-")
        self.refused(NoPlace, made, "gap 3 0", "gap 0 3", "gap 9999 9999")
        for none in NUMBERS:
            self.refused(NoText, made, f"gap {none} 0", f"gap 0 {none}", f"gap 9 {none}", f"gap {none} 9")
        self.refused(NoRow, made, "gap", "gap 0", "gap 0 0 0", "gap 0 0 ", "gap  0 0")

    def test_a_gap_that_is_tangled(self):
        rows = ["room" for _ in range(4)] + [f"step {scope} up to {scope + 1}" for scope in range(3) for _ in range(8)]
        made = desk(*rows)
        self.refused(Tangled, made, "gap 0 0", "gap 0 2")
        self.refused(NoPlace, made, "gap 0 3", "gap 5 0")
        self.check(made, "gap 1 0", "-")

    def test_net(self):
        self.check(desk(PROGRAM), "net", "3 3 7")
        self.refused(NoRow, desk(PROGRAM), "net ", "net 0", " net", "Net")


class Deeds(Rows):
    def test_each(self):
        made = Desk()
        self.check(made, "room", "1", "room", "2", "thing plain 0", "0", "thing part 1", "1",
                   "tell 0 own far thing 1", "ok", "tell 1 open x thing 0", "ok", "ask 0 0 far.x", "0",
                   "mean 0", "thing 0", "step 2 up to 0", "ok", "ask 2 0 far.x", "1", "mean 1", "thing 0",
                   "ask 2 2 x", "2", "mean 2", "none 0", "thing sort 0", "2", "tell 2 let y by 0", "ok",
                   "ask 2 0 y", "3", "mean 3", "thing 0", "step 2 elder by 0", "ok", "net", "3 3 4",
                   "unstep 2 0", "ok", "mean 1", "none 0", "untell 1 0", "ok", "mean 0", "none 1", "mean 3", "none 0")

    def test_as_a_house(self):
        made, house = desk(PROGRAM), House(net_by(read(PROGRAM.partition(" ")[2])), usual())
        made.say("untell 1 0")
        house.untell(1, 0)
        self.check(made, "gone", " ".join(str(question) for question in house.gone()))
        self.assertEqual([made.say(f"mean {question}") for question in range(7)],
                         [f"{kind} {number}" for kind, number in house.answers()])

    def test_rows(self):
        made = desk(PROGRAM)
        self.refused(NoRow, made, "tell", "tell 0 own x thing", "tell 0 own x thing 0 0", "tell 0 own x thing 0 ",
                     "step 0 up to", "step 0 up to 0 0", "step  0 up to 0", "untell 0", "untell 0 0 0", "unstep",
                     "unstep 0 0 ", "room ", "room 0", "thing plain", "thing", "thing plain 0 0", "ask 0 0",
                     "ask 0 x", "ask 0 0 x y", "ask 0 0 x ", "Tell 0 own x thing 0", "rooms")

    def test_numbers(self):
        made = desk(PROGRAM)
        for none in NUMBERS:
            self.refused(NoText, made, f"tell {none} own x thing 0", f"tell 0 own x thing {none}",
                         f"tell {none} A A a {none}", f"step {none} up to 0", f"step 0 up to {none}",
                         f"untell {none} 0", f"untell 0 {none}", f"unstep {none} 0", f"unstep 9 {none}",
                         f"thing plain {none}", f"thing x {none}", f"ask {none} 0 x", f"ask 0 {none} x")

    def test_paths(self):
        made = desk(PROGRAM)
        for none in ("", ".", "a.", ".a", "a..b", "A", "ninechars", "a.b.c.d.e.f.g", "1", "-"):
            self.refused(NoText, made, f"ask 0 0 {none}", f"ask 9 0 {none}", f"ask 0 9 {none}")
        self.check(made, "ask 0 0 a.b.c.d.e.f", "7")

    def test_places(self):
        made = desk(PROGRAM)
        self.refused(NoPlace, made, "tell 3 own x thing 0", "tell 9999 A A a 0", "step 3 up to 0", "untell 3 0",
                     "untell 0 2", "unstep 0 1", "unstep 3 0", "ask 3 0 x", "ask 0 3 x", "tell 0 own x thing 3",
                     "tell 0 own x by 7", "tell 0 own x to 0", "step 0 up to 3", "step 0 up thing 0", "thing plain 1",
                     "thing part 3", "thing sort 7", "thing x 0", "thing  0", "tell 0 own x  0")

    def test_names(self):
        made = desk(PROGRAM)
        self.refused(NoName, made, "tell 0 A x thing 9", "tell 0 own X to 0", "tell 0  x thing 0",
                     "tell 0 own  thing 0",
                     "step 0 ninechars to 9", "step 0  to 0")

    def test_too_great(self):
        made = desk(*["tell 0 own x thing 0" if number else "thing plain 0" for number in range(13)])
        self.refused(TooGreat, made, "tell 0 own x thing 0", "tell 0 A A a 9")
        made = desk(*["room"] * 39)
        self.refused(TooGreat, made, "room")
        self.check(made, "net", "40 0 0")

    def test_tangled(self):
        made = desk(*TWO_HUNDRED, "ask 0 0 x")
        self.refused(Tangled, made, "step 0 up to 5", "step 3 up to 4")
        self.refused(NoName, made, "step 0 Up to 5")
        self.check(made, "step 0 far to 5", "ok", "unstep 0 0", "ok", "step 0 up to 5", "ok")


class Anew(Rows):
    def test_ok(self):
        made = desk(PROGRAM, "room")
        self.check(made, "gone", "-", "anew 1 0 y", "ok", "gone", "0 1 2 3 4 5 6", "gap 1 1", "y 1",
                   "mean 3", "thing 1",
                   "anew 0 0 far", "ok", "gap 0 2", "far 0 , z 1", "anew 0 0 far", "ok", "net", "4 3 7")

    def test_the_answers_and_ways_stay(self):
        made = desk(PROGRAM)
        before = [made.say(f"{row} {question}") for row in ("mean", "ways", "wait") for question in range(7)]
        made.say("anew 0 0 far")
        made.say("anew 2 0 near")
        after = [made.say(f"{row} {question}") for row in ("mean", "ways", "wait") for question in range(7)]
        self.assertEqual(after, before)

    def test_no_row_and_no_text(self):
        made = desk(PROGRAM)
        self.refused(NoRow, made, "anew", "anew 0", "anew 0 0", "anew 0 0 x y", "anew 0 0 x ", " anew 0 0 x")
        for none in NUMBERS:
            self.refused(NoText, made, f"anew {none} 0 x", f"anew 0 {none} x", f"anew 9 {none} X")

    def test_refused_as_point_24_tells(self):
        made = desk(PROGRAM)
        self.refused(NoPlace, made, "anew 3 0 x", "anew 0 2 x", "anew 9 9 X", "anew 2 1 ")
        self.refused(NoName, made, "anew 0 0 X", "anew 0 0 ninechars", "anew 0 0 ")
        self.refused(Caught, made, "anew 0 0 q", "anew 0 0 z")
        with self.assertRaises(Caught) as taken:
            made.say("anew 2 0 z")
        self.assertEqual((taken.exception.question, taken.exception.before, taken.exception.after),
                         (5, [[[(2, "step", 0), (0, "told", 1)]]], [[[(2, "told", 0)]], []]))

    def test_tangled(self):
        # With the new name question 0 is answered by a part, by which scope 0 has one beginning more.
        made = desk(*TWO_HUNDRED, "thing part 5", "tell 5 own a thing 0", "ask 5 0 b", "step 0 up by 0", "ask 0 0 x")
        self.refused(Tangled, made, "anew 5 0 b")
        self.check(made, "anew 5 0 c", "ok")


class NoRows(Rows):
    def test_what_is_no_text(self):
        self.refused(NoRow, desk(PROGRAM), None, 0, True, [], ["net"], ("net",), b"net", {})

    def test_other_words(self):
        self.refused(NoRow, desk(PROGRAM), "", " ", "  ", "x", "ok", "Net", "nett", "0", "mean0", "net\n", "\tnet",
                     "house", "answers", "still", "program\task x", "table\n: | 0 |", "-")

    def test_no_row_ahead_of_no_text(self):
        self.refused(NoRow, desk(PROGRAM), "mean x x", "gap x", "tell x", "ask x x X X", "anew 01")


class AnyPrograms(Rows):
    """Programs and tables of all shapes: each row tells what the program's parts give."""

    def test_programs_of_all_shapes(self):
        chance = random.Random(32)
        counts = [0, 0]
        for _ in range(150):
            table = some_table(chance)
            program = some_program(chance, ("a", "b"), 2)
            made = Desk()
            try:
                made.say("table " + show_table(table))
                net = net_by(program)
                House(net, table)
            except PathError as error:
                counts[0] += 1
                self.refused(error.__class__, made, "program " + written(program))
                continue
            counts[1] += 1
            self.assertEqual(made.say("program " + written(program)), "ok")
            answers = still(net, table)[0]
            waiting = waits(net, answers, table)
            for question, answer in enumerate(answers):
                self.assertEqual(made.say(f"mean {question}"), "open" if answer is None else "%s %s" % answer)
                self.assertEqual(made.say(f"wait {question}"), str(waiting[question]) if answer is None else "-")
                due = " / ".join(" ; ".join(" , ".join("%s %s %s" % mark for mark in way) for way in seen) or "-"
                                 for seen in trail(net, answers, table, question))
                self.assertEqual(made.say(f"ways {question}"), due)
            self.assertEqual(made.say("ring"), " ".join(map(str, ring_of(net, answers, table))) or "-")
            for scope in range(len(net[0])):
                due = " , ".join("%s %s" % pair for pair in may_stand(net, answers, table, scope)) or "-"
                self.assertEqual(made.say(f"gap {scope} 0"), due)
            self.assertEqual(made.say("net"), "%s %s %s" % tuple(len(part) for part in net))
        self.assertGreater(min(counts), 20, counts)


if __name__ == "__main__":
    unittest.main()
