"""Point 29: tables written and read, and what is refused."""

import copy
import random
import re
import unittest

from namepaths.errors import NoName, NoPlace, NoText, PathError, Ring, TooGreat, Twice
from namepaths.tables import table_of, usual
from namepaths.tabletexts import read_table, show_table
from some_nets import LABELS, some_table

USUAL = ("all 1 , allon 1 , elder 1 , up 0 : let open own / allon 1 , elder 1 : open / up 0 : let open own | 1 |"
         " all up , allon up , elder all , elder allon , let elder , open elder , own elder")


class Written(unittest.TestCase):
    def check(self, states, inner, pairs, text):
        table = table_of(states, inner, pairs)
        kept = copy.deepcopy(table)
        self.assertEqual(show_table(table), text)
        self.assertEqual(table, kept)
        self.assertEqual(read_table(text), kept)

    def test_the_usual_table(self):
        self.assertEqual(show_table(usual()), USUAL)
        self.assertEqual(read_table(USUAL), usual())

    def test_as_in_the_document(self):
        self.check([([("up", 0)], ["own"]), ([], ["open"])], 1, [("own", "up")],
                   "up 0 : own / : open | 1 | own up")

    def test_without_goes_ends_and_pairs(self):
        self.check([([], [])], 0, [], ": | 0 |")
        self.check([([], []), ([], [])], 1, [], ": / : | 1 |")
        self.check([([("up", 0)], [])], 0, [], "up 0 : | 0 |")
        self.check([([], ["own"])], 0, [], ": own | 0 |")
        self.check([([], [])], 0, [("a", "b")], ": | 0 | a b")

    def test_several_goes_and_ends(self):
        self.check([([("b", 1), ("a", 0), ("c", 1)], ["z", "x", "y"]), ([("a", 0)], [])], 0, [],
                   "a 0 , b 1 , c 1 : x y z / a 0 : | 0 |")

    def test_eight_states(self):
        self.check([([("a", number)], []) for number in range(8)], 7, [],
                   "a 0 : / a 1 : / a 2 : / a 3 : / a 4 : / a 5 : / a 6 : / a 7 : | 7 |")

    def test_pairs_that_have_nothing_between_them(self):
        self.check([([], [])], 0, [("a", "b"), ("b", "c"), ("a", "c")], ": | 0 | a b , b c")
        self.check([([], [])], 0, [("c", "d"), ("b", "c"), ("a", "b")], ": | 0 | a b , b c , c d")
        self.check([([], [])], 0, [("a", "b"), ("a", "b")], ": | 0 | a b")
        # Two ways from a to d: the straight pair follows from each.
        self.check([([], [])], 0, [("a", "d"), ("a", "c"), ("c", "d"), ("b", "d"), ("a", "b")],
                   ": | 0 | a b , a c , b d , c d")

    def test_a_long_row_of_pairs(self):
        labels = [one + other for one in "abcdef" for other in "abcdefg"][:41]
        pairs = list(zip(labels, labels[1:]))
        text = ": | 0 | " + " , ".join(f"{better} {worse}" for better, worse in pairs)
        self.check([([], [])], 0, pairs[::-1], text)


class Read(unittest.TestCase):
    def check(self, text, states, inner, pairs):
        self.assertEqual(read_table(text), table_of(states, inner, pairs))

    def test_in_any_order(self):
        self.check("up 0 , all 1 : own let / : | 1 | own up , all up , let own",
                   [([("all", 1), ("up", 0)], ["let", "own"]), ([], [])], 1,
                   [("let", "own"), ("own", "up"), ("all", "up")])

    def test_any_pairs(self):
        self.check(": | 0 | a c , b c , a b , a c", [([], [])], 0, [("a", "b"), ("b", "c")])

    def test_labels_that_are_in_no_state(self):
        self.check(": own | 0 | x y", [([], ["own"])], 0, [("x", "y")])


class Refusals(unittest.TestCase):
    def refused(self, kind, *texts):
        for text in texts:
            with self.assertRaises(PathError, msg=text) as taken:
                read_table(text)
            self.assertIs(taken.exception.__class__, kind, text)


class NoSuchText(Refusals):
    def test_things_that_are_no_text(self):
        self.refused(NoText, None, 0, True, [], [": | 0 |"], (":", "|", "0", "|"), b": | 0 |", usual())

    def test_signs_left_out_or_put_in(self):
        self.refused(NoText, "", " ", ":", "|", ": 0", ": | 0", ": 0 |", "| 0 |", ": | |", ": | 0 | |", "| : | 0 |",
                     ": : | 0 |", "/ : | 0 |", ": / | 0 |", ": / / : | 0 |", ": | 0 | /", ": | 0 | :", ": | 0 | ,",
                     "up 0 | 0 |", "up 0 own | 0 |", "up 0 , : | 0 |", ", up 0 : | 0 |", "up 0 , , up 0 : | 0 |",
                     "up 0 all 0 : | 0 |", "up : | 0 |", "up , 0 : | 0 |", ": own , let | 0 |", ": , | 0 |",
                     ": | 0 | a b ,", ": | 0 | , a b", ": | 0 | a", ": | 0 | a b c", ": | 0 | a b c d",
                     ": | 0 | a , b", ": | 0 | a / b", ": | 0 | a :", ": | 0 | / b", ": | 0 0 |", ": | / |", ": | , |",
                     ": own : | 0 |", "0 : | 0 |", "up 0 1 : | 0 |", ": | 0 | a b / : | 0 |")

    def test_numbers(self):
        for none in ("", "00", "01", "0001", "-1", "-0", "+1", "1.", "a", "x1", "1x", "10000", "99999", "1_0",
                     "\u0661", "\u00b2", "\uff11", "0x1", "1\n", "\t1", "1" * 5000):
            self.refused(NoText, f": | {none} |", f"up {none} : | 0 |", f": / up 0 , all {none} : | 0 |")

    def test_numbers_that_are_written_well(self):
        self.refused(NoPlace, ": | 1 |", ": | 10 |", ": | 9999 |", "up 1 : | 0 |", "up 1000 : | 0 |")
        self.assertEqual(read_table(": | 0 |"), table_of([([], [])], 0, []))

    def test_words_without_signs(self):
        # Two blanks together, or one at an end: a word where a label is due, and no number.
        self.refused(NoName, ":  | 0 |", ": own  | 0 |", ":  own | 0 |", " 0 : | 0 |", "up 0 ,  0 : | 0 |",
                     ": | 0 |  ", ": | 0 | a ", ": | 0 |  a", ": | 0 | a b ,  ", ": | 0 | a b , c ")
        self.refused(NoText, ": | 0 | ", " : | 0 |", "  : | 0 |", ": |  0 |", ": | 0  |", ": |  |", ": | 0 | a b ",
                     "up  0 : | 0 |", "up 0  : | 0 |", ": | 0 |   ", "up  : | 0 |")

    def test_other_signs_in_words(self):
        # Words, but no names.
        self.refused(NoName, ": a,b | 0 |", ": own/ | 0 |", ": a|b | 0 |", ": :: | 0 |", ": A | 0 |",
                     ": ninechars | 0 |",
                     ": a\tb | 0 |", ": own\n | 0 |", ": | 0 | a -", ": | 0 | ; a", "1 0 : | 0 |", ": 7 | 0 |",
                     ": | 0 | 1 2", "\u00e4 0 : | 0 |", ": a.b | 0 |", "|| 0 : | 0 |")


class WhatPointFiveRefuses(Refusals):
    def test_too_great(self):
        self.refused(TooGreat, " / ".join([":"] * 9) + " | 0 |")
        self.refused(TooGreat, " , ".join(f"{label} 0" for label in "abcdefghi") + " : | 0 |")
        self.refused(TooGreat, ": a b c d e f g h i | 0 |")
        self.refused(TooGreat, ": | 0 | " + " , ".join(["a b"] * 41))
        read_table(": | 0 | " + " , ".join(["a b"] * 40))
        read_table(": a b c d e f g h | 0 |")

    def test_no_place(self):
        self.refused(NoPlace, "up 1 : | 0 |", ": / : / : | 3 |")

    def test_twice(self):
        self.refused(Twice, "up 0 , up 0 : | 0 |", ": own own | 0 |", "up 0 , up 1 : / : | 0 |")

    def test_ring(self):
        self.refused(Ring, ": | 0 | a a", ": | 0 | a b , b a", ": | 0 | a b , b c , c a")
        with self.assertRaises(Ring) as taken:
            read_table(": | 0 | x y , b c , c b")
        self.assertIn(taken.exception.ring, (["b", "c"], ["c", "b"]))

    def test_of_two_the_first(self):
        nine = " / ".join([":"] * 9)
        self.refused(NoText, nine + " | x |", nine + " | 0 | a", ": A | 00 |", ": own own | |", ": | 5 | a a a")
        self.refused(TooGreat, nine + " | 99 | A a", "A 9 : / " + nine + " | 0 |")
        self.refused(NoName, "A 9 : | 7 | a a", ": own own A | 9 |", ": | 9 | A A")
        self.refused(NoPlace, "up 1 , up 1 : | 0 |", ": own own | 1 | a a")
        self.refused(Twice, ": own own | 0 | a a")


class AnyTables(unittest.TestCase):
    def test_tables_of_all_shapes(self):
        chance = random.Random(30)
        for _ in range(500):
            table = some_table(chance)
            kept = copy.deepcopy(table)
            text = show_table(table)
            self.assertEqual(read_table(text), table)
            self.assertEqual(show_table(read_table(text)), text)
            self.assertEqual(table, kept)
            pairs = [tuple(two.split(" ")) for two in text.rpartition("|")[2].strip().split(" , ") if two]
            due = [(a, c) for a, c in table[2]
                   if not any((a, b) in table[2] and (b, c) in table[2] for b in LABELS)]
            self.assertEqual(pairs, sorted(due))

    def is_text(self, text):
        """By the kinds of its words alone: n a number, w another word, or a sign."""
        kinds = ""
        for word in text.split(" "):
            number = re.fullmatch("0|[1-9][0-9]{0,3}", word)
            kinds += word if word in ("/", "|", ",", ":") else "n" if number else "w"
        twos, state = "(?:[nw][nw](?:,[nw][nw])*)?", "(?:[nw]n(?:,[nw]n)*)?:[nw]*"
        return re.fullmatch(rf"{state}(?:/{state})*\|n\|{twos}", kinds) is not None

    def test_a_word_left_out_twice_or_put_in(self):
        """Held against another way to tell what is such a text."""
        chance = random.Random(31)
        seen = [0, 0]
        for _ in range(3000):
            words = show_table(some_table(chance)).split(" ")
            place = chance.randrange(len(words))
            more = chance.choice(("/", "|", ",", ":", "", "0", "1", "01", "up", "own", "A"))
            words[place:place + 1] = chance.choice(([], [words[place]] * 2, [more, words[place]], [more]))
            text = " ".join(words)
            try:
                read_table(text)
                refused = False
            except PathError as error:
                refused = error.__class__ is NoText
            self.assertEqual(refused, not self.is_text(text), text)
            seen[refused] += 1
        self.assertGreater(min(seen), 500, seen)


class Kept(unittest.TestCase):
    def test_what_is_read_is_new(self):
        table = read_table(USUAL)
        for goes, ends in table[0]:
            goes.clear()
            ends.clear()
        table[0].clear()
        table[2].clear()
        self.assertEqual(read_table(USUAL), usual())

    def test_kinds(self):
        table = read_table(USUAL)
        self.assertEqual([part.__class__ for part in (table,) + table], [tuple, list, int, list])
        self.assertEqual([part.__class__ for part in (table[0][0],) + table[0][0]], [tuple, list, list])
        self.assertEqual([part.__class__ for part in (table[0][0][0][0], table[2][0])], [tuple, tuple])


if __name__ == "__main__":
    unittest.main()
