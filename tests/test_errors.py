"""The error classes, with their fields and how they are made."""

import unittest

from namepaths import errors

PLAIN = ("TooGreat", "NoName", "NoPlace", "Twice", "Tangled", "NoText", "NoRow")


def all_classes():
    return [getattr(errors, name) for name in PLAIN + ("Ring", "Caught")]


class Classes(unittest.TestCase):
    def test_path_error_is_a_value_error(self):
        self.assertEqual(errors.PathError.__bases__, (ValueError,))

    def test_each_stands_under_path_error(self):
        for kind in all_classes():
            self.assertTrue(issubclass(kind, errors.PathError), kind)

    def test_none_stands_under_another(self):
        for kind in all_classes():
            for other in all_classes():
                self.assertEqual(issubclass(kind, other), kind is other, (kind, other))

    def test_plain_ones_are_made_with_words_or_without(self):
        for name in PLAIN:
            kind = getattr(errors, name)
            self.assertEqual(str(kind("why")), "why")
            self.assertIsInstance(kind(), errors.PathError)

    def test_they_are_taken_by_path_error(self):
        for error in (errors.Twice("x"), errors.Ring(["a"]), errors.Caught(0, [], [])):
            with self.assertRaises(errors.PathError):
                raise error


class Fields(unittest.TestCase):
    def test_ring(self):
        self.assertEqual(errors.Ring(["far", "near"]).ring, ["far", "near"])

    def test_rings_list_is_its_own(self):
        told = ["far", "near"]
        error = errors.Ring(told)
        told.append("up")
        self.assertEqual(error.ring, ["far", "near"])
        error.ring.clear()
        self.assertEqual(told, ["far", "near", "up"])

    def test_caught(self):
        before, after = [[[(0, "told", 1)]]], [[], [[(2, "step", 0), (1, "told", 0)]]]
        error = errors.Caught(4, before, after)
        self.assertEqual((error.question, error.before, error.after), (4, before, after))

    def test_caughts_lists_are_its_own_with_the_lists_in_them(self):
        before, after = [[[(0, "told", 1)]]], [[[(0, "told", 2)]]]
        error = errors.Caught(4, before, after)
        before[0][0].append((9, "told", 9))
        after[0].clear()
        self.assertEqual(error.before, [[[(0, "told", 1)]]])
        self.assertEqual(error.after, [[[(0, "told", 2)]]])


if __name__ == "__main__":
    unittest.main()
