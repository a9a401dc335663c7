"""Point 26: the items of programs, their classes and fields."""

import inspect
import unittest

from namepaths.items import All, Ask, Elder, Item, Let, One, Part, Thing

CLASSES = (Part, Thing, Let, Elder, All, One, Ask)


class Classes(unittest.TestCase):
    def test_each_stands_under_item(self):
        for kind in CLASSES:
            self.assertTrue(issubclass(kind, Item))

    def test_none_stands_under_another(self):
        for kind in CLASSES:
            for other in CLASSES:
                self.assertEqual(issubclass(kind, other), kind is other)

    def test_an_item_is_made_of_nothing(self):
        self.assertIsInstance(Item(), Item)

    def test_arguments(self):
        due = ("Part(reach, name, items)", "Thing(reach, name, of=None)", "Let(name, of=None)", "Elder(path)",
               "All(path, on=False)", "One(reach, name, path)", "Ask(path)")
        self.assertEqual(tuple(kind.__name__ + str(inspect.signature(kind)) for kind in CLASSES), due)


class Fields(unittest.TestCase):
    def check(self, item, **fields):
        self.assertEqual({name: getattr(item, name) for name in fields}, fields)

    def test_part(self):
        asked = Ask(("x",))
        self.check(Part("open", "far", [asked]), reach="open", name="far", inner=[asked])
        self.check(Part("own", "far", []), reach="own", name="far", inner=[])
        self.check(Part(reach="own", name="far", items=[asked]), inner=[asked])

    def test_thing(self):
        self.check(Thing("own", "x"), reach="own", name="x", of=None)
        self.check(Thing("open", "x", ("far", "near")), reach="open", name="x", of=("far", "near"))
        self.check(Thing("open", "x", of=None), of=None)

    def test_let(self):
        self.check(Let("x"), name="x", of=None)
        self.check(Let("x", ("far",)), name="x", of=("far",))
        self.check(Let("x", of=("far",)), of=("far",))

    def test_elder(self):
        self.check(Elder(("far", "near")), path=("far", "near"))

    def test_all(self):
        self.check(All(("far",)), path=("far",), on=False)
        self.check(All(("far",), True), path=("far",), on=True)
        self.check(All(("far",), on=False), path=("far",), on=False)
        self.assertIs(All(("far",)).on, False)

    def test_one(self):
        self.check(One("own", "x", ("far", "y")), reach="own", name="x", path=("far", "y"))

    def test_ask(self):
        self.check(Ask(("x",)), path=("x",))


class Kept(unittest.TestCase):
    def test_a_part_keeps_a_list_of_its_own(self):
        one, other = Ask(("x",)), Ask(("y",))
        items = [one]
        part = Part("open", "far", items)
        items.append(other)
        self.assertEqual(part.inner, [one])
        part.inner.clear()
        self.assertEqual(items, [one, other])
        self.assertIs(part.inner.__class__, list)

    def test_two_parts_of_one_list(self):
        items = [Ask(("x",))]
        one, other = Part("open", "a", items), Part("open", "b", items)
        one.inner.clear()
        self.assertEqual(len(other.inner), 1)


if __name__ == "__main__":
    unittest.main()
