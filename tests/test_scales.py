"""Promises [6.1] to [6.8], and the class Scale."""
import unittest
from collections import Counter
from itertools import islice, product
from unittest.mock import patch

from slantways.errors import InvalidScale, InvalidText, TooMany, UnknownName
from slantways.sort import sorting as module
from slantways.sort.sorting import MAX_ROUNDS, MAX_TEXT, MAX_WEIGHT, Scale
from tests.helper import Case, wrong_for, wrong_values

TILT = Scale({"b": -3, "a": 2})
TWO = [(2, -3), (-3, 2), (1, -1), (0, 1), (0, -1), (3, 5), (-12, 12), (1, -12), (0, 0), (-2, -2), (4, -6)]
THREE = [(2, -3, 0), (-1, 0, 1), (1, 2, -3), (12, -5, -7), (3, 3, -1)]
# A text that comes back, but not soon.
LONG_SCALE = Scale({"a": 12, "b": -12, "c": 11, "d": -11, "e": -1})
LONG_TEXT = "bdeeddbbbedaabeacacdeddd"


def scales_and_texts():
    """Many scales, each with many texts."""
    found = []
    for weights, longest in [(two, 8) for two in TWO] + [(three, 5) for three in THREE]:
        letters = "abcde"[:len(weights)]
        texts = ["".join(one) for size in range(longest + 1) for one in product(letters, repeat=size)]
        found.append((Scale(dict(zip(letters, weights))), texts))
    return found


def levels_of(scale, text):
    """The levels of [6.2], each one counted afresh."""
    return [sum(scale.weights[letter] for letter in text[:place + 1]) for place in range(len(text))]


def rank(level):
    """What puts levels in the order of [6.2]."""
    return level >= 0, -level


def order_of(levels):
    """The places by their levels, the later one of equal levels first."""
    return sorted(range(len(levels)), key=lambda place: (rank(levels[place]), -place))


def three_things_hold(scale, text, value):
    """Whether integers for the letters of a text have the three properties of [6.5]."""
    if [rank(one) for one in value] != sorted(rank(one) for one in value):
        return False
    departures = [one - scale.weights[letter] for one, letter in zip(value, text)]
    total = sum(scale.weights[letter] for letter in text)
    if Counter(list(value) + [0]) != Counter(departures + [total]):
        return False
    for one in value:
        for _ in range(len(text) + 1):
            if one != 0:
                one = [departure for level, departure in zip(value, departures) if level == one][-1]
        if one != 0:
            return False
    return True


def text_before(scale, text, value):
    """The text that is found from behind with the back levels, as [6.5] tells."""
    left = list(enumerate(value))
    level = sum(scale.weights[letter] for letter in text)
    letters = []
    while left:
        place = next(place for place, one in left if one == level)
        left = [(other, one) for other, one in left if other != place]
        letters.append(text[place])
        level = level - scale.weights[text[place]]
    return "".join(letters[::-1])


class ExamplesTest(Case):
    def test_sorted(self):
        shown = [TILT.place_levels("ababa"), TILT.order("ababa"), TILT.sorted_text("ababa"), TILT.sorted_text("aaabb"),
                 TILT.unsorted("aabab"), TILT.back_levels("aabab")]
        self.assertEqual(shown, [(2, -1, 1, -2, 0), (1, 3, 0, 2, 4), "bbaaa", "aabab", "aaabb", (6, 4, 3, 2, 0)])
        self.assertEqual(TILT.place_levels("aaabb"), (2, 4, 6, 3, 0))

    def test_course(self):
        shown = [list(TILT.course("aabab")), TILT.rounds("ab"), TILT.way_to("aabab", "aaabb"),
                 TILT.way_to("aabab", "bbaaa"), TILT["b"], str(~TILT), len(TILT), "c" in TILT]
        self.assertEqual(shown, [["aabab", "aaabb"], 2, 1, None, -3, "a-2 b3", 2, False])

    def test_back_levels(self):
        shown = [TILT.is_back_levels("aabab", (6, 4, 3, 2, 0)), TILT.is_back_levels("aabab", (0, 0, 0, 0, 0)),
                 Scale({"a": 1, "b": 2}).sorted_text("aab"), Scale({"a": -1, "b": -2}).sorted_text("aab")]
        self.assertEqual(shown, [True, False, "baa", "aab"])

    def test_wrong_letter(self):
        self.raised(InvalidText, TILT.sorted_text, "abc")


class SortedTest(Case):
    def test_levels_and_order(self):
        for scale, texts in scales_and_texts():
            for text in texts:
                levels = levels_of(scale, text)
                self.same(scale.place_levels(text), tuple(levels))
                order = order_of(levels)
                self.same(scale.order(text), tuple(order))
                self.same(scale.sorted_text(text), "".join(text[place] for place in order))
                self.assertIs(scale.is_order(text, tuple(order)), True)
                self.assertIs(scale.is_order(text, tuple(order[::-1])), len(text) < 2)

    def test_one_to_one(self):
        for scale, texts in scales_and_texts():
            found = {}
            for text in texts:
                one = scale.sorted_text(text)
                self.assertEqual(sorted(one), sorted(text))
                self.assertNotIn(one, found)
                found[one] = text
            for one, text in found.items():
                self.same(scale.unsorted(one), text)

    def test_back_levels(self):
        for scale, texts in scales_and_texts():
            for text in texts:
                before = scale.unsorted(text)
                levels = levels_of(scale, before)
                back = tuple(levels[place] for place in order_of(levels))
                self.same(scale.back_levels(text), back)
                self.assertIs(scale.is_back_levels(text, back), True)
                self.assertTrue(three_things_hold(scale, text, back))
                self.assertEqual(text_before(scale, text, back), before)

    def test_three_things_are_enough(self):
        for weights, longest in (((2, -3), 3), ((1, -1), 3), ((-1, 3), 3), ((0, 2), 3), ((1, 2, -2), 2)):
            scale = Scale(dict(zip("abc", weights)))
            most = longest * max(abs(weight) for weight in weights) + 1
            for size in range(longest + 1):
                values = list(product(range(-most, most + 1), repeat=size))
                for letters in product(scale.letters, repeat=size):
                    text = "".join(letters)
                    right = [value for value in values if three_things_hold(scale, text, value)]
                    self.assertEqual(right, [scale.back_levels(text)])
                    for value in values:
                        self.assertIs(scale.is_back_levels(text, value), value == right[0])

    def test_long_texts(self):
        texts = [LONG_TEXT, "abcde" * 4 + "abcd", "a" * 24, "edcba" * 4 + "eeee", "ab" * 12, "a" * 12 + "b" * 12, "e" * 24]
        for scale in (LONG_SCALE, Scale({"a": 12, "b": -11, "c": 7, "d": 0, "e": -12}),
                      Scale({"a": -12, "b": -12, "c": -12, "d": -12, "e": 12})):
            for text in texts:
                self.assertEqual(scale.sorted_text(scale.unsorted(text)), text)
                self.assertEqual(scale.unsorted(scale.sorted_text(text)), text)
                self.assertTrue(three_things_hold(scale, text, scale.back_levels(text)))

    def test_no_letter(self):
        for scale in (TILT, LONG_SCALE, Scale({"e": 0})):
            shown = [scale.place_levels(""), scale.order(""), scale.sorted_text(""), scale.unsorted(""),
                     scale.back_levels(""), list(scale.course("")), scale.rounds(""), scale.way_to("", "")]
            self.assertEqual(shown, [(), (), "", "", (), [""], 1, 0])
            self.assertIs(scale.is_order("", ()), True)
            self.assertIs(scale.is_back_levels("", ()), True)
            self.assertIs(scale.is_order("", ""), False)

    def test_weights_of_one_sign(self):
        for weights in ((1, 2, 3), (12, 1, 5), (4, 4, 4), (0, 0, 0)):
            scale = Scale(dict(zip("abc", weights)))
            for size in range(6):
                for letters in product("abc", repeat=size):
                    text = "".join(letters)
                    self.assertEqual(scale.sorted_text(text), text[::-1])
                    if weights[0] > 0:
                        self.assertEqual((~scale).sorted_text(text), text)

    def test_wrong_values(self):
        for value in wrong_values() + [[0, 1], (0, True), (False, 1), ("0", "1"), (1, 0), (0, 1, 2), (0, 10 ** 99)]:
            self.assertIs(TILT.is_order("bb", value), False)
            self.assertIs(TILT.is_back_levels("ab", value), False)
        self.assertEqual([TILT.order("bb"), TILT.back_levels("ab")], [(0, 1), (-1, -3)])
        self.assertIs(TILT.is_order("bb", (0, 1)), True)
        self.assertIs(Scale({"a": 1}).is_back_levels("a", (1,)), True)
        self.assertIs(Scale({"a": 1}).is_back_levels("a", (True,)), False)
        self.assertIs(Scale({"a": 1}).is_order("a", (False,)), False)


class CourseTest(Case):
    def test_all(self):
        for scale, texts in scales_and_texts():
            for text in texts[:80]:
                course = [text]
                while scale.sorted_text(course[-1]) != text:
                    course.append(scale.sorted_text(course[-1]))
                self.assertEqual(list(scale.course(text)), course)
                self.same(scale.rounds(text), len(course))
                for many, other in enumerate(course):
                    self.same(scale.way_to(text, other), many)
                for other in texts[:80]:
                    if other not in course:
                        self.assertIs(scale.way_to(text, other), None)

    def test_limit(self):
        self.same(MAX_ROUNDS, 5000)
        course = LONG_SCALE.course(LONG_TEXT)
        texts = list(islice(course, 5000))
        self.assertEqual(len(set(texts)), 5000)
        self.raised_number(TooMany, 5000, next, course)
        self.raised_number(TooMany, 5000, LONG_SCALE.rounds, LONG_TEXT)
        self.assertEqual(LONG_SCALE.way_to(LONG_TEXT, texts[-1]), 4999)
        self.assertEqual(LONG_SCALE.way_to(LONG_TEXT, texts[0]), 0)
        for other in (LONG_SCALE.sorted_text(texts[-1]), "", "a", LONG_SCALE.unsorted(LONG_TEXT)):
            self.raised_number(TooMany, 5000, LONG_SCALE.way_to, LONG_TEXT, other)

    def test_just_at_the_limit(self):
        for scale, texts in scales_and_texts()[:3]:
            for text in texts[-20:]:
                many = scale.rounds(text)
                self.assertGreaterEqual(many, 1)
                with patch.object(module, "MAX_ROUNDS", many):
                    self.assertEqual(scale.rounds(text), many)
                    self.assertEqual(len(list(scale.course(text))), many)
                    self.assertIs(scale.way_to(text, ""), None)
                with patch.object(module, "MAX_ROUNDS", many - 1):
                    course = scale.course(text)
                    self.assertEqual(len(list(islice(course, many - 1))), many - 1)
                    self.raised_number(TooMany, many - 1, next, course)
                    self.raised_number(TooMany, many - 1, scale.rounds, text)
                    self.raised_number(TooMany, many - 1, scale.way_to, text, "")


class FalseStatementsTest(Case):
    def sorted_by(self, scale, text, ahead, earlier):
        """The letters by levels, with one rule or both rules turned."""
        levels = [level - scale.weights[letter] * ahead for letter, level in zip(text, levels_of(scale, text))]
        places = sorted(range(len(text)), key=lambda place: (rank(levels[place]), place if earlier else -place))
        return "".join(text[place] for place in places)

    def test_one_rule_turned(self):
        for ahead, earlier in ((True, False), (False, True)):
            lost = []
            for scale, texts in scales_and_texts():
                lost.append(len(texts) - len({self.sorted_by(scale, text, ahead, earlier) for text in texts}))
            self.assertGreater(max(lost), 0)
        scale = Scale({"a": -2, "b": 1})
        self.assertEqual([self.sorted_by(scale, text, True, False) for text in ("aab", "aba")], ["aba", "aba"])
        scale = Scale({"a": -2, "b": 0})
        self.assertEqual([self.sorted_by(scale, text, False, True) for text in ("ab", "ba")], ["ab", "ab"])

    def test_both_rules_turned(self):
        for scale, texts in scales_and_texts():
            for text in texts:
                if sum(scale.weights[letter] for letter in text) == 0:
                    both = self.sorted_by(scale, text, True, True)
                    self.assertEqual(both, (~scale).sorted_text(text[::-1]))

    def test_sorting_twice(self):
        texts = list(TILT.course("aaabbb"))
        self.assertGreater(len(texts), 2)
        self.assertNotEqual(TILT.sorted_text(TILT.sorted_text("aaabbb")), "aaabbb")


class ScaleTest(Case):
    def test_values(self):
        for weights in ({"a": 2, "b": -3}, {"e": 12, "a": -12}, {"c": 0}, dict(zip("edcba", (1, -2, 3, 0, -12)))):
            scale = Scale(weights)
            letters = "".join(sorted(weights))
            self.same(scale.letters, letters)
            self.assertEqual(list(scale.weights.items()), sorted(weights.items()))
            self.assertIs(scale.weights.__class__, dict)
            self.assertEqual(len(scale), len(weights))
            self.same(str(scale), " ".join(f"{letter}{weights[letter]}" for letter in letters))
            self.assertEqual({letter: scale[letter] for letter in weights}, weights)
            other = ~scale
            self.assertEqual({letter: other[letter] for letter in weights},
                             {letter: -weight for letter, weight in weights.items()})
            self.assertEqual(list(other.weights), list(letters))
            self.assertEqual(~other, scale)

    def test_equal(self):
        self.assertTrue(TILT == Scale({"a": 2, "b": -3}))
        self.assertFalse(TILT != Scale({"a": 2, "b": -3}))
        for weights in ({"a": 2}, {"a": 2, "b": 3}, {"a": 2, "b": -3, "c": 0}, {"a": -3, "b": 2}):
            self.assertTrue(TILT != Scale(weights))
        for value in wrong_for(Scale) + [{"a": 2, "b": -3}, "a2 b-3"]:
            self.assertIs(TILT == value, False)
            self.assertIs(value != TILT, True)

    def test_names(self):
        for value in wrong_values() + ["c", "ab", "A", "ba", "", ["a"], ("a",), 0, {"a": 1}]:
            self.assertIs(value in TILT, False)
            self.assertIs(self.raised(UnknownName, lambda one: TILT[one], value).name, value)
        self.assertIs("a" in TILT, True)
        self.same(TILT["a"], 2)

    def test_not_iterated(self):
        for call in (iter, list, tuple, sorted, enumerate, hash):
            self.raised(TypeError, call, TILT)
        for value in wrong_values():
            self.raised(TypeError, lambda one: TILT < one, value)
            self.raised(TypeError, lambda one: TILT + one, value)

    def test_shares_nothing(self):
        weights = {"b": -3, "a": 2}
        scale = Scale(weights)
        weights["a"] = 5
        weights["c"] = 1
        scale.weights["a"] = 7
        scale.weights.clear()
        self.assertEqual(scale, TILT)
        self.assertEqual((scale["a"], scale.letters, scale.weights), (2, "ab", {"a": 2, "b": -3}))
        for name in ("weights", "letters"):
            self.raised(AttributeError, setattr, scale, name, {})

    def test_wrong_weights(self):
        self.same((MAX_WEIGHT, MAX_TEXT), (12, 24))
        wrong = [{}, {"f": 1}, {"A": 1}, {"ab": 1}, {"": 1}, {1: 1}, {"a": 13}, {"a": -13}, {"a": True}, {"a": None},
                 {"a": "1"}, {"a": 1, "f": 1}, {"a": 1, 2: 2}, {"a": 10 ** 99}, {("a",): 1}, {None: 1}, {True: 1},
                 [("a", 1)], (("a", 1),), "a1", ["a"], {"a": 1, "b": 2, "c": 3, "d": 4, "e": 5, "f": 6}, {"a": (1,)},
                 {"a": 1, "b": False}, {"a": [1]}, {" ": 1}, TILT]
        for value in wrong + wrong_values():
            if value != {"a": 1} and value != {"a": "x"}:
                self.raised(InvalidScale, Scale, value)
        self.assertEqual(str(Scale({"a": 12, "e": -12, "c": 0, "d": 1, "b": 2})), "a12 b2 c0 d1 e-12")


class WrongTextsTest(Case):
    def calls(self):
        return (TILT.place_levels, TILT.order, TILT.sorted_text, TILT.back_levels, TILT.unsorted, TILT.rounds,
                lambda text: next(TILT.course(text)), lambda text: TILT.way_to(text, "ab"),
                lambda text: TILT.way_to("ab", text), lambda text: TILT.is_order(text, ()),
                lambda text: TILT.is_back_levels(text, ()))

    def test_all(self):
        wrong = ["c", "abc", "A", "a b", "ab\n", "a" * 25, "ab" * 13, ["a", "b"], ("a",), [], (), b"ab", 0, None, True]
        for value in wrong + [value for value in wrong_values() if value != ""]:
            for call in self.calls():
                self.raised(InvalidText, call, value)
            self.raised(InvalidText, TILT.way_to, value, value)

    def test_longest(self):
        for call in self.calls()[:5]:
            call("a" * 24)
            call("ab" * 12)
        self.assertEqual(TILT.rounds("a" * 24), 1)
        self.assertEqual(TILT.way_to("a" * 24, "a" * 24), 0)
        self.assertIs(TILT.way_to("a" * 24, "b"), None)

    def test_errors_of_a_generator(self):
        course = TILT.course("abc")
        self.raised(InvalidText, next, course)


if __name__ == "__main__":
    unittest.main()
