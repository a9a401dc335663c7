"""Point 28: programs written and read, and what is no such text."""

import random
import re
import unittest

from namepaths.errors import NoText
from namepaths.items import All, Ask, Elder, Let, One, Part, Thing
from namepaths.texts import read, written
from some_programs import WORDS, all_fields, nested, some_program, text_of

NAME = "[a-z]{1,8}"
PATH = rf"{NAME}(?:\.{NAME}){{0,5}}"
REACH = "(?:open|own)"
ITEM = (rf"(?:@|thing {REACH} {NAME}(?: of {PATH})?|let {NAME}(?: of {PATH})?|elder {PATH}|all(?: on)? {PATH}"
        rf"|one {REACH} {NAME} from {PATH}|ask {PATH})")
ITEMS = rf"{ITEM}(?: ; {ITEM})*"
PART = re.compile(rf"part {REACH} {NAME} \( (?:{ITEMS} )?\)")


def is_text(text):
    """Is it a program's text: parts are put away from the inmost on, until nothing but items is left."""
    if "@" in text:
        return False
    before = None
    while before != text:
        before = text
        text = PART.sub("@", text)
    return text == "" or re.fullmatch(ITEMS, text) is not None


class EachKind(unittest.TestCase):
    def check(self, program, text):
        kept = all_fields(program)
        self.assertEqual(written(program), text)
        self.assertEqual(all_fields(program), kept)
        self.assertEqual(all_fields(read(text)), kept)

    def test_no_items(self):
        self.check([], "")

    def test_part(self):
        self.check([Part("open", "a", [])], "part open a ( )")
        self.check([Part("own", "far", [])], "part own far ( )")
        self.check([Part("own", "a", [Ask(("x",))])], "part own a ( ask x )")

    def test_thing(self):
        self.check([Thing("open", "a")], "thing open a")
        self.check([Thing("own", "a", ("b",))], "thing own a of b")
        self.check([Thing("own", "a", ("b", "c"))], "thing own a of b.c")

    def test_let(self):
        self.check([Let("a")], "let a")
        self.check([Let("a", ("b", "c", "d"))], "let a of b.c.d")

    def test_elder(self):
        self.check([Elder(("a",))], "elder a")
        self.check([Elder(("a", "b"))], "elder a.b")

    def test_all(self):
        self.check([All(("a", "b"))], "all a.b")
        self.check([All(("a", "b"), True)], "all on a.b")

    def test_one(self):
        self.check([One("own", "a", ("b", "c"))], "one own a from b.c")
        self.check([One("open", "a", ("b",))], "one open a from b")

    def test_ask(self):
        for many in range(1, 7):
            self.check([Ask(("longname",) * many)], "ask " + ".".join(["longname"] * many))

    def test_beside_others(self):
        self.check([Part("own", "a", []), Thing("own", "b", ("c",)), Thing("own", "d"), Let("e"), Let("f", ("g",)),
                    Elder(("h",)), All(("i",)), All(("j",), True), One("own", "k", ("l",)), Ask(("m",)),
                    Part("open", "n", [])],
                   "part own a ( ) ; thing own b of c ; thing own d ; let e ; let f of g ; elder h ; all i ; all on j ;"
                   " one own k from l ; ask m ; part open n ( )")

    def test_each_alone_and_last_in_a_part(self):
        for item, text in (
                (Part("own", "a", []), "part own a ( )"), (Thing("own", "b", ("c",)), "thing own b of c"),
                (Thing("own", "d"), "thing own d"), (Let("e"), "let e"), (Let("f", ("g",)), "let f of g"),
                (Elder(("h",)), "elder h"), (All(("i",)), "all i"), (All(("j",), True), "all on j"),
                (One("own", "k", ("l",)), "one own k from l"), (Ask(("m",)), "ask m")):
            self.check([Part("open", "p", [item])], f"part open p ( {text} )")
            self.check([Part("open", "p", [item, item]), item], f"part open p ( {text} ; {text} ) ; {text}")

    def test_parts_within_parts(self):
        self.check([Part("own", "a", [Part("own", "b", []), Part("own", "c", [Part("own", "d", [Let("e")])])]),
                    Ask(("x",))],
                   "part own a ( part own b ( ) ; part own c ( part own d ( let e ) ) ) ; ask x")

    def test_names_that_are_words_of_the_writing(self):
        for word in WORDS:
            self.check([Part("own", word, [])], f"part own {word} ( )")
            self.check([Thing("own", word), Thing("open", word, (word,))],
                       f"thing own {word} ; thing open {word} of {word}")
            self.check([Let(word), Let(word, (word, word))], f"let {word} ; let {word} of {word}.{word}")
            self.check([Elder((word,)), Ask((word,))], f"elder {word} ; ask {word}")
            self.check([All((word,)), All((word,), True)], f"all {word} ; all on {word}")
            self.check([One("own", word, (word,))], f"one own {word} from {word}")

    def test_all_and_on(self):
        self.check([All(("on",))], "all on")
        self.check([All(("on",), True)], "all on on")
        self.check([All(("on", "on"))], "all on.on")
        self.check([All(("on", "on"), True)], "all on on.on")
        self.check([All(("on",)), All(("on",), True)], "all on ; all on on")
        self.check([Part("own", "on", [All(("on",))])], "part own on ( all on )")
        self.check([Part("own", "on", [All(("on",), True)])], "part own on ( all on on )")


class Brackets(unittest.TestCase):
    def text(self, deep, inmost):
        return "part open a ( " * deep + (inmost + " " if inmost else "") + " ".join([")"] * deep)

    def test_thirty_one(self):
        for deep in (1, 30, 31):
            for inmost, items in (("", []), ("ask x", [Ask(("x",))])):
                text = self.text(deep, inmost)
                self.assertEqual(written(nested(deep, items)), text)
                self.assertEqual(all_fields(read(text)), all_fields(nested(deep, items)))

    def test_thirty_two(self):
        for deep in (32, 33, 5000):
            for inmost in ("", "ask x"):
                self.assertRaises(NoText, read, self.text(deep, inmost))

    def test_beside_one_another(self):
        text = " ; ".join([self.text(31, "")] * 3)
        self.assertEqual(written(read(text)), text)
        self.assertRaises(NoText, read, text + " ; " + self.text(32, ""))


class NoSuchText(unittest.TestCase):
    def check(self, *texts):
        for text in texts:
            self.assertRaises(NoText, read, text)

    def test_things_that_are_no_text(self):
        self.check(None, 0, 1, True, [], ["ask", "x"], ("ask x",), b"ask x", {}, Ask(("x",)))

    def test_blanks(self):
        self.check(" ", "  ", " ask x", "ask x ", "ask  x", "ask x ;  ask y", "ask x  ; ask y", "part own a (  )",
                   "part own a ( ) ", "ask\tx", "ask x\n", "\n", "ask x\n; ask y", "ask\u00a0x")

    def test_words_that_are_wanting(self):
        self.check("part", "part own", "part own a", "part own a (", "part own a )", "part own ( )", "part a ( )",
                   "thing", "thing own", "thing own a of", "thing a", "let", "let a of", "elder", "all", "all on ;",
                   "one", "one own", "one own a", "one own a from", "one own a b", "ask", "a", "ask x ;", "; ask x",
                   ";", "ask x ask y", "ask x ; ; ask y", "part own a ( ask x ; )", "part own a ( ; )", "( )",
                   "( ask x )")

    def test_words_that_are_too_many(self):
        self.check("ask x y", "elder x y", "all x y", "all on x y", "thing own a b", "thing own a of b c",
                   "thing own a of b of c", "let a b", "let a of b of c", "one own a from b c", "part own a b ( )",
                   "part own a ( ) )", "ask x )", "part own a ( ) ask x", "part own a ( ) ( )", "ask x (")

    def test_reaches(self):
        self.check("thing let a", "thing Own a", "thing owned a", "part all a ( )", "one up a from b", "thing  a")

    def test_names(self):
        for none in ("", "A", "ninechars", "a1", "a-b", "\u00e4", "a.b", "(", ")", ";", "."):
            self.check(f"part own {none} ( )", f"thing own {none}", f"thing own {none} of x", f"let {none}",
                       f"let {none} of x", f"one own {none} from x")

    def test_paths(self):
        for none in ("", ".", "a.", ".a", "a..b", "A", "a.B", "ninechars", "a.ninechars", "a.1", "a.b.c.d.e.f.g",
                     "a,b", "(", "-", "a.\u00e4"):
            self.check(f"ask {none}", f"elder {none}", f"all {none}", f"all on {none}", f"thing own x of {none}",
                       f"let x of {none}", f"one own x from {none}")
        for none in (";", ")"):
            self.check(f"ask {none}", f"elder {none}", f"all {none}", f"thing own x of {none}", f"let x of {none}")
        self.check("ask a . b", "ask a .b")

    def test_other_words_and_signs(self):
        self.check("Ask x", "asks x", "up x", "ask x, ask y", "ask x;ask y", "part own a (ask x)", "part own a ()",
                   "part own a [ ]", "-", "ok", "\x00")


class AnyPrograms(unittest.TestCase):
    def test_programs_of_all_shapes(self):
        chance = random.Random(28)
        for _ in range(500):
            program = some_program(chance)
            kept = all_fields(program)
            text = written(program)
            self.assertEqual(text, text_of(program))
            self.assertTrue(is_text(text), text)
            self.assertEqual(all_fields(read(text)), kept)
            self.assertEqual(all_fields(program), kept)

    def changed(self, chance, words):
        """The words with one left out, twice, put in, or two of them changed about."""
        words = list(words)
        place = chance.randrange(len(words))
        kind = chance.choice(("out", "twice", "in", "other", "about"))
        more = chance.choice(WORDS + (";", "(", ")", "", ".", "a.b", "A"))
        if kind == "out":
            words.pop(place)
        elif kind == "twice":
            words.insert(place, words[place])
        elif kind == "in":
            words.insert(place, more)
        elif kind == "other":
            words[place] = more
        else:
            other = chance.randrange(len(words))
            words[place], words[other] = words[other], words[place]
        return words

    def test_a_word_left_out_twice_or_put_in(self):
        """Held against another way to tell what is such a text."""
        chance = random.Random(29)
        seen = [0, 0]
        for _ in range(4000):
            words = written(some_program(chance)).split(" ")
            for _ in range(chance.choice((1, 1, 2))):
                if words:
                    words = self.changed(chance, words)
            text = " ".join(words)
            seen[is_text(text)] += 1
            if is_text(text):
                self.assertEqual(written(read(text)), text)
            else:
                self.assertRaises(NoText, read, text)
        self.assertGreater(min(seen), 500, seen)


class Kept(unittest.TestCase):
    def test_what_is_read_is_new(self):
        text = "part own a ( ask x )"
        program = read(text)
        program[0].inner.clear()
        program.clear()
        self.assertEqual(written(read(text)), text)

    def test_kinds(self):
        program = read("part own a ( ask x.y ) ; thing own b ; all c")
        self.assertIs(program.__class__, list)
        self.assertIs(program[0].inner.__class__, list)
        self.assertIs(program[0].inner[0].path.__class__, tuple)
        self.assertIsNone(program[1].of)
        self.assertIs(program[2].on, False)
        self.assertIs(read("all on c")[0].on, True)
        self.assertIs(written(program).__class__, str)


if __name__ == "__main__":
    unittest.main()
