"""Promises [2.1] to [2.6], and the functions of slantways.way.turns."""
import unittest
from math import gcd

from slantways.errors import InvalidNumber, InvalidSlope, InvalidText, InvalidWay
from slantways.way.turns import (
    lowest_places, period, touch_count, turn_to, turned, way_of, ways_among, word_levels, words_of,
)
from slantways.way.ways import Slope, Way, is_way, lowest, way_count, ways
from tests.helper import Case, all_words, levels_of, small_sides, wrong_values

ODD, EVEN, WIDE = Slope(3, 5), Slope(2, 2), Slope(3, 3)
SIDES = small_sides(8) + [(3, 6), (6, 3), (4, 6), (5, 5)]


def round_words(word):
    """All turned words of a word, by the number of letters."""
    return [word[number:] + word[:number] for number in range(len(word))]


class ExamplesTest(Case):
    def test_odd(self):
        shown = [word_levels(ODD, "ssrsrrss"), lowest_places(ODD, "ssrsrrss"), turned(ODD, "ssrsrrss", 2),
                 turned(ODD, "ssrsrrss", 0)]
        self.assertEqual(shown, [(0, -3, -6, -1, -4, 1, 6, 3), (2,), "rsrrssss", "ssrsrrss"])
        place, way = way_of(ODD, "ssrsrrss")
        shown = [place, way.text, touch_count(way), period(ODD, way.text), len(words_of(way)),
                 turn_to(way, "srsrrsss"), turn_to(way, "rrrsssss")]
        self.assertEqual(shown, [2, "rsrrssss", 1, 8, 8, 1, None])

    def test_even(self):
        shown = [word_levels(EVEN, "srsr"), lowest_places(EVEN, "srsr"), period(EVEN, "srsr"),
                 [way.text for way in ways_among(EVEN, "srsr")], words_of(Way(EVEN, "rsrs"))]
        self.assertEqual(shown, [(0, -2, 0, -2), (1, 3), 2, ["rsrs"], ("rsrs", "srsr")])

    def test_wide(self):
        shown = [lowest_places(WIDE, "srsrrs"), [way.text for way in ways_among(WIDE, "srsrrs")],
                 touch_count(Way(WIDE, "rsrrss")), period(WIDE, "srsrrs")]
        self.assertEqual(shown, [(1, 3), ["rrssrs", "rsrrss"], 2, 6])

    def test_wrong_number(self):
        self.raised_number(InvalidNumber, 8, turned, ODD, "rrrsssss", 8)


class WordsTest(Case):
    def test_levels(self):
        for rises, steps in SIDES:
            slope = Slope(rises, steps)
            for word in all_words(rises, steps):
                levels = word_levels(slope, word)
                self.same(levels, tuple(levels_of(rises, steps, word)))
                places = [place for place in range(len(word)) if levels[place] == min(levels)]
                self.same(lowest_places(slope, word), tuple(places))

    def test_turned(self):
        for rises, steps in SIDES:
            slope = Slope(rises, steps)
            for word in all_words(rises, steps):
                levels = word_levels(slope, word)
                for number, turned_word in enumerate(round_words(word)):
                    self.same(turned(slope, word, number), turned_word)
                    moved = [level - levels[number] for level in levels[number:] + levels[:number]]
                    self.assertEqual(word_levels(slope, turned_word), tuple(moved))
                    self.assertIs(is_way(slope, turned_word), levels[number] == min(levels))

    def test_coprime(self):
        for rises, steps in SIDES:
            if gcd(rises, steps) == 1:
                slope = Slope(rises, steps)
                words = all_words(rises, steps)
                for word in words:
                    self.assertEqual(len(set(word_levels(slope, word))), len(word))
                    self.assertEqual(len(lowest_places(slope, word)), 1)
                    self.assertEqual(ways_among(slope, word), (way_of(slope, word)[1],))
                    self.assertEqual(period(slope, word), len(word))
                self.assertEqual(len(words), way_count(slope) * (rises + steps))

    def test_period(self):
        for rises, steps in SIDES:
            slope = Slope(rises, steps)
            for word in all_words(rises, steps):
                size = len(word)
                least = min([number for number in range(1, size) if round_words(word)[number] == word] + [size])
                self.same(period(slope, word), least)
                self.assertEqual(size % least, 0)
                self.assertEqual(slope.common % (size // least), 0)
                self.assertEqual(len(set(round_words(word))), least)
                lows = len(lowest_places(slope, word)) * least
                self.assertEqual(lows % size, 0)
                self.assertEqual(len(ways_among(slope, word)), lows // size)

    def test_powers_of_a_shorter_word(self):
        for part in ("rs", "rrss", "srr", "rsssr"):
            for many in range(1, 13):
                word = part * many
                slope = Slope(word.count("r"), word.count("s"))
                self.same(period(slope, word), len(part))
                self.assertEqual(len(words_of(way_of(slope, word)[1])), len(part))

    def test_greatest_word(self):
        slope = Slope(60, 60)
        self.same(period(slope, "sr" * 60), 2)
        self.same(lowest_places(slope, "sr" * 60), tuple(range(1, 120, 2)))
        self.assertEqual(ways_among(slope, "sr" * 60), (Way(slope, "rs" * 60),))
        self.same(period(slope, "s" * 60 + "r" * 60), 120)
        self.assertEqual(way_of(slope, "s" * 60 + "r" * 60), (60, Way(slope, "r" * 60 + "s" * 60)))
        self.assertEqual(way_of(Slope(1, 60), "s" * 60 + "r")[0], 60)
        self.assertEqual(turned(Slope(1, 1), "sr", 1), "rs")

    def test_last_number(self):
        self.assertEqual(turned(ODD, "ssrsrrss", 7), "sssrsrrs")
        self.assertEqual(turned(Slope(60, 60), "s" * 60 + "r" * 60, 119), "r" + "s" * 60 + "r" * 59)


class WaysOfWordsTest(Case):
    def test_way_of(self):
        for rises, steps in SIDES:
            slope = Slope(rises, steps)
            for word in all_words(rises, steps):
                place, way = way_of(slope, word)
                texts = round_words(word)
                self.assertEqual(place, min(number for number in range(len(word)) if is_way(slope, texts[number])))
                self.assertEqual(way, Way(slope, texts[place]))
                self.assertIsInstance(way_of(slope, word), tuple)

    def test_ways_among(self):
        for rises, steps in SIDES:
            slope = Slope(rises, steps)
            for word in all_words(rises, steps):
                texts = sorted({text for text in round_words(word) if is_way(slope, text)})
                among = ways_among(slope, word)
                self.assertIsInstance(among, tuple)
                self.assertEqual(among, tuple(Way(slope, text) for text in texts))
                for number in range(len(word)):
                    self.assertEqual(ways_among(slope, turned(slope, word, number)), among)

    def test_touches(self):
        for rises, steps in SIDES:
            slope = Slope(rises, steps)
            for way in ways(slope):
                touches = [level for level in way.levels if level == 0]
                self.same(touch_count(way), len(touches))
                for other in ways_among(slope, way.text):
                    self.assertEqual(touch_count(other), len(touches))
        self.assertEqual(touch_count(lowest(Slope(60, 60))), 60)
        self.assertEqual(touch_count(lowest(Slope(59, 60))), 1)

    def test_words_of(self):
        for rises, steps in SIDES:
            slope = Slope(rises, steps)
            among = {word: 0 for word in all_words(rises, steps)}
            for way in ways(slope):
                words = words_of(way)
                self.same(words, tuple(sorted(set(round_words(way.text)))))
                self.assertIn(way.text, words)
                for word in words:
                    among[word] = among[word] + 1
            for word, many in among.items():
                self.assertEqual(len(ways_among(slope, word)), many)

    def test_turn_to(self):
        for rises, steps in SIDES:
            slope = Slope(rises, steps)
            words = all_words(rises, steps)
            for way in ways(slope):
                reached = words_of(way)
                for word in words:
                    number = turn_to(way, word)
                    self.assertEqual(number is None, word not in reached)
                    if number is not None:
                        self.same(number, round_words(word).index(way.text))

    def test_what_is_false_for_common_parts(self):
        self.assertEqual(len(ways_among(WIDE, "srsrrs")), 2)
        self.assertEqual([len(ways_among(EVEN, "srsr")), len(lowest_places(EVEN, "srsr"))], [1, 2])


class WrongArgumentsTest(Case):
    WORDS = (word_levels, lowest_places, way_of, ways_among, period)

    def no_words(self):
        return wrong_values() + ["rrrssss", "rrrssssss", "rrrrssss", "rrsssssx", "RRRSSSSS", " rrrsssss", "rrrsssss\n",
                                 list("rrrsssss"), tuple("rrrsssss"), Way(ODD, "rrrsssss")]

    def test_slope_comes_first(self):
        for value in wrong_values():
            if not isinstance(value, Slope):
                for call in self.WORDS:
                    self.raised(InvalidSlope, call, value, "rrrsssss")
                    self.raised(InvalidSlope, call, value, None)
                self.raised(InvalidSlope, turned, value, "rrrsssss", 0)
                self.raised(InvalidSlope, turned, value, None, True)

    def test_no_word(self):
        for value in self.no_words():
            for call in self.WORDS:
                self.raised(InvalidText, call, ODD, value)
            self.raised(InvalidText, turned, ODD, value, 0)
            self.raised(InvalidText, turned, ODD, value, True)
            self.raised(InvalidText, turned, ODD, value, 10 ** 99)
            self.raised(InvalidText, turn_to, Way(ODD, "rrrsssss"), value)

    def test_wrong_number(self):
        for value in wrong_values() + [8, -8, 7 + 10 ** 60, "0", (0,)]:
            if not (value.__class__ is int and 0 <= value <= 7):
                self.assertIs(self.raised(InvalidNumber, turned, ODD, "ssrsrrss", value).value, value)
        self.raised_number(InvalidNumber, True, turned, ODD, "ssrsrrss", True)
        self.raised_number(InvalidNumber, False, turned, ODD, "ssrsrrss", False)
        self.raised_number(InvalidNumber, -1, turned, ODD, "ssrsrrss", -1)
        self.raised_number(InvalidNumber, 120, turned, Slope(60, 60), "rs" * 60, 120)

    def test_wrong_way(self):
        for value in wrong_values() + ["rrrsssss"]:
            if not isinstance(value, Way):
                self.raised(InvalidWay, touch_count, value)
                self.raised(InvalidWay, words_of, value)
                self.raised(InvalidWay, turn_to, value, "rrrsssss")
                self.raised(InvalidWay, turn_to, value, None)


if __name__ == "__main__":
    unittest.main()
