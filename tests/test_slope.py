"""Promises [0.8], [0.9], [0.12] and [1.1], and the class Slope."""
import unittest
from itertools import product
from math import gcd

from slantways.errors import InvalidNumber, InvalidText, ParseError, Refused
from slantways.way.ways import MAX_SIDE, Slope, Way
from tests.helper import Case, wrong_values

TEXTS = [f"{rises}:{steps}" for rises in range(1, 61) for steps in range(1, 61)]


def parse_errors():
    """A function that tells the index of [1.1] for a string that is no text of a slope."""
    texts = set(TEXTS)
    prefixes = {text[:size] for text in TEXTS for size in range(len(text) + 1)}

    def error_index(string):
        if string in texts:
            return None
        for index in range(len(string)):
            if string[:index + 1] not in prefixes:
                return index
        return len(string)
    return error_index


class SlopeTest(Case):
    def test_examples(self):
        one, high, odd = Slope(2, 3), Slope(3, 4), Slope(3, 5)
        shown = [str(one), one.half, high.common, Slope(4, 6).common, Slope.of_text("3:5") == odd,
                 str(odd.exchanged()), Slope(4, 6).is_coprime]
        self.assertEqual(shown, ["2:3", 1, 1, 2, True, "5:3", False])
        self.raised_number(ParseError, 3, Slope.of_text, "3:61")
        self.raised_number(Refused, ("common", 2), lambda: Slope(4, 6).half)

    def test_constant(self):
        self.same(MAX_SIDE, 60)

    def test_all_slopes(self):
        for rises in range(1, 61):
            for steps in range(1, 61):
                slope = Slope(rises, steps)
                self.assertEqual((slope.rises, slope.steps), (rises, steps))
                self.assertEqual(slope.common, gcd(rises, steps))
                self.assertIs(slope.is_coprime, gcd(rises, steps) == 1)
                self.assertEqual(str(slope.exchanged()), f"{steps}:{rises}")

    def test_half(self):
        for rises, steps, half in ((1, 1, 0), (1, 60, 0), (60, 1, 0), (2, 3, 1), (3, 5, 4), (59, 60, 29 * 59)):
            self.same(Slope(rises, steps).half, half)
        for rises, steps, common in ((2, 2, 2), (4, 6, 2), (60, 60, 60), (20, 15, 5), (60, 45, 15)):
            self.raised_number(Refused, ("common", common), lambda: Slope(rises, steps).half)

    def test_wrong_sides(self):
        for value in wrong_values():
            if not (isinstance(value, int) and value is not True and 1 <= value <= 60):
                self.assertIs(self.raised(InvalidNumber, Slope, value, 3).value, value)
                self.assertIs(self.raised(InvalidNumber, Slope, 3, value).value, value)
        for side in (0, 61):
            self.raised_number(InvalidNumber, side, Slope, side, 60)
            self.raised_number(InvalidNumber, side, Slope, 1, side)

    def test_first_wrong_side_is_told(self):
        self.raised_number(InvalidNumber, 0, Slope, 0, 61)
        self.raised_number(InvalidNumber, True, Slope, True, 0)
        self.raised_number(InvalidNumber, False, Slope, 60, False)
        self.raised_number(InvalidNumber, "3", Slope, "3", None)

    def test_equal(self):
        self.assertTrue(Slope(3, 5) == Slope(3, 5))
        self.assertFalse(Slope(3, 5) != Slope(3, 5))
        for other in (Slope(5, 3), Slope(3, 4), Slope(2, 5), Slope(6, 10)):
            self.assertTrue(Slope(3, 5) != other)
        for value in wrong_values():
            self.assertIs(Slope(3, 5) == value, False)
            self.assertIs(value != Slope(3, 5), True)
        self.assertIs(Slope(3, 5) == "3:5", False)

    def test_never_changes(self):
        slope = Slope(3, 5)
        for name in ("rises", "steps", "common", "is_coprime", "half"):
            with self.assertRaises(AttributeError):
                setattr(slope, name, 1)
        slope.exchanged()
        self.assertEqual((str(slope), slope.common, slope.half), ("3:5", 1, 4))

    def test_neither_iterated_nor_ordered(self):
        for call in (iter, list, len, lambda one: one < one, lambda one: one + 1, lambda one: 3 in one):
            with self.assertRaises(TypeError):
                call(Slope(3, 5))

    def test_texts_are_read(self):
        for text in TEXTS:
            self.assertEqual(str(Slope.of_text(text)), text)

    def test_class_method_of_an_object(self):
        self.assertEqual(Slope(1, 1).of_text("60:59"), Slope(60, 59))


class WrongTextTest(Case):
    def check(self, index, text):
        self.raised_number(ParseError, index, Slope.of_text, text)

    def test_index(self):
        wrong = (
            ("", 0), ("0", 0), ("03:5", 0), (" 3:5", 0), (":", 0), (":5", 0), ("r", 0), ("-3:5", 0), ("\n", 0),
            ("3", 1), ("3 :5", 1), ("61:5", 1), ("7", 1), ("70:5", 1), ("3-5", 1), ("60", 2), ("600:1", 2),
            ("3:", 2), ("3:0", 2), ("3:05", 2), ("3: 5", 2), ("3::5", 2), ("60:", 3), ("60:0", 3), ("3:61", 3),
            ("3:5 ", 3), ("3:5:", 3), ("3:5\n", 3), ("3:70", 3), ("3:100", 4), ("60:601", 5), ("60:60:60", 5),
            ("1" * 3000, 2), ("x" * 3000, 0), ("60:60" * 600, 5),
        )
        for text, index in wrong:
            self.check(index, text)

    def test_all_short_strings(self):
        error_index = parse_errors()
        for size in range(6):
            for letters in product("0167:r", repeat=size):
                text = "".join(letters)
                index = error_index(text)
                if index is None:
                    self.assertEqual(str(Slope.of_text(text)), text)
                else:
                    self.check(index, text)

    def test_no_string(self):
        for value in wrong_values():
            if not isinstance(value, str):
                self.raised(InvalidText, Slope.of_text, value)
        self.raised(InvalidText, Slope.of_text, Slope(3, 5))
        self.raised(InvalidText, Slope.of_text, Way(Slope(1, 1), "rs"))
        self.raised(InvalidText, Slope.of_text, ("3", ":", "5"))


if __name__ == "__main__":
    unittest.main()
