"""What the tests share: wrong values, brute force over texts, and a check of raised errors."""
import unittest
from itertools import combinations

from slantways.way.ways import Slope, Way

DEEP = ((((((((1,),),),),),),),)


def wrong_values():
    """Values of all kinds that [0.4] names, objects of the package among them."""
    return [
        None, True, False, 0, 1, 3, -1, 61, 10 ** 60, -10 ** 99, 10 ** 99,
        "", "r", "s", "rs", "3:4", "\n", "rrrssss\n", "x" * 3000,
        (), (1,), (3, 4), ("r", "s"), [], [1, 2], {}, {"a": 1}, {1: [2, (3,)]}, DEEP,
        Slope(3, 4), Slope(60, 60), Way(Slope(3, 4), "rrrssss"), Way(Slope(1, 1), "rs"),
    ]


def all_words(rises, steps):
    """All strings with so many rises and steps, ascending."""
    size = rises + steps
    words = []
    for places in combinations(range(size), rises):
        words.append("".join("r" if place in places else "s" for place in range(size)))
    return sorted(words)


def levels_of(rises, steps, text):
    """The levels of [0.10], each one counted afresh."""
    return [steps * text[:place].count("r") - rises * text[:place].count("s") for place in range(len(text))]


def way_texts(rises, steps):
    """The texts of all ways, ascending, found among all words."""
    return [word for word in all_words(rises, steps) if min(levels_of(rises, steps, word)) >= 0]


def small_sides(most):
    """All pairs of sides that are together at most a number."""
    return [(rises, steps) for rises in range(1, most) for steps in range(1, most - rises + 1)]


class Case(unittest.TestCase):
    """A test case that can look at an error: its class and all that it keeps."""

    def same(self, one, other):
        """Check for equal values of the same kind: True is not 1."""
        self.assertEqual(one, other)
        self.assertIs(one.__class__, other.__class__)

    def raised(self, error, call, *arguments):
        """Check that a call raises just this kind of error, and return it."""
        with self.assertRaises(error) as caught:
            call(*arguments)
        self.assertIs(caught.exception.__class__, error, arguments)
        return caught.exception

    def raised_number(self, error, kept, call, *arguments):
        """Check for an error that keeps one thing, whatever its attribute is called."""
        found = list(vars(self.raised(error, call, *arguments)).values())
        self.assertEqual(len(found), 1)
        self.same(found[0], kept)
