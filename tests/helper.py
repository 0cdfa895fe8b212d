"""What the tests share: wrong values, brute force over texts, and a check of raised errors."""
import unittest
from itertools import combinations
from math import gcd

from slantways.count.tables import CountTable
from slantways.desk.desk import Desk
from slantways.heap.heaps import Heap
from slantways.parting.partings import Parting
from slantways.room.chains import Chain
from slantways.room.fields import Field
from slantways.room.rooms import Room
from slantways.shelf.shelves import Shelf
from slantways.shuffle.shuffles import Shuffle
from slantways.sort.sorting import Scale
from slantways.way.ways import Slope, Way

DEEP = ((((((((1,),),),),),),),)


def wrong_values():
    """Values of all kinds that [0.4] names, objects of the package among them."""
    return [
        None, True, False, 0, 1, 3, -1, 61, 10 ** 60, -10 ** 99, 10 ** 99,
        "", "r", "s", "rs", "3:4", "\n", "rrrssss\n", "x" * 3000,
        (), (1,), (3, 4), ("r", "s"), [], [1, 2], {}, {"a": 1}, {1: [2, (3,)]}, DEEP,
        Slope(3, 4), Slope(60, 60), Way(Slope(3, 4), "rrrssss"), Way(Slope(1, 1), "rs"),
        Shelf(Slope(3, 4), (1, 2, 5)), Shelf(Slope(1, 1)), Heap((2, 1)), Heap(), Scale({"a": 1, "b": -2}),
        CountTable(Slope(3, 4)), Field(2), Field(9), Room(Field(2), Slope(2, 3), ((1, 1),)),
        Room(Field(3), Slope(1, 4), ()), Chain(Room(Field(2), Slope(2, 3), ((1, 1),)), (((0, 1),),)),
        Shuffle(Slope(3, 4), (4, 2, 0)), Parting(4, ((1, 4), (2, 3))), Parting(1, ((1,),)), Desk(Slope(3, 5)),
    ]


def wrong_for(kind):
    """The wrong values that are no objects of a class."""
    return [value for value in wrong_values() if not isinstance(value, kind)]


def wrong_numbers():
    """The wrong values that are no integers, and integers of more than sixty digits."""
    return [value for value in wrong_values() if value.__class__ is not int] + [10 ** 60, -10 ** 60, 10 ** 99]


def all_words(rises, steps):
    """All strings with so many rises and steps, ascending."""
    size = rises + steps
    words = []
    for places in combinations(range(size), rises):
        words.append("".join("r" if place in places else "s" for place in range(size)))
    return sorted(words)


def levels_of(rises, steps, text):
    """The levels of [0.10], each one counted afresh."""
    return [steps * text[:place].count("r") - rises * text[:place].count("s") for place in range(len(text))]


def way_texts(rises, steps):
    """The texts of all ways, ascending, found among all words."""
    return [word for word in all_words(rises, steps) if min(levels_of(rises, steps, word)) >= 0]


def small_sides(most):
    """All pairs of sides that are together at most a number."""
    return [(rises, steps) for rises in range(1, most) for steps in range(1, most - rises + 1)]


def coprime_sides(width):
    """All pairs of sides up to 13 without a common part, with a product of (a - 1) and (b - 1) up to a width."""
    pairs = [(rises, steps) for rises in range(1, 14) for steps in range(1, 14) if gcd(rises, steps) == 1]
    return [(rises, steps) for rises, steps in pairs if (rises - 1) * (steps - 1) <= width]


def own_counts(rises, steps, text):
    """The room and the pairs of a way, by the whole squares and by the levels of its letters."""
    levels = levels_of(rises, steps, text)
    up = [level for letter, level in zip(text, levels) if letter == "r"]
    along = [level for letter, level in zip(text, levels) if letter == "s"]
    lower = sum(1 for step in along for rise in up if step < rise)
    return sum(level // rises for level in up), (rises - 1) * (steps - 1) // 2 - lower


def is_closed(gaps, rises, steps):
    """Whether the integers of at least 0 that are no gaps hold 0, and each sum of a member and a side."""
    members = [number for number in range(max(gaps, default=0)) if number not in gaps]
    return 0 not in gaps and not any(member + side in gaps for member in members for side in (rises, steps))


def gap_sets(rises, steps):
    """The gaps of all shelves, found among all sets of integers above 0 and below (a - 1) (b - 1)."""
    numbers = range(1, (rises - 1) * (steps - 1))
    found = []
    for many in range(len(numbers) + 1):
        found.extend(gaps for gaps in combinations(numbers, many) if is_closed(gaps, rises, steps))
    return found


class Case(unittest.TestCase):
    """A test case that can look at an error: its class and all that it keeps."""

    def same(self, one, other):
        """Check for equal values of the same kind: True is not 1."""
        self.assertEqual(one, other)
        self.assertIs(one.__class__, other.__class__)

    def raised(self, error, call, *arguments):
        """Check that a call raises just this kind of error, and return it."""
        with self.assertRaises(error) as caught:
            call(*arguments)
        self.assertIs(caught.exception.__class__, error, arguments)
        return caught.exception

    def raised_number(self, error, kept, call, *arguments):
        """Check for an error that keeps one thing, whatever its attribute is called."""
        found = list(vars(self.raised(error, call, *arguments)).values())
        self.assertEqual(len(found), 1)
        self.same(found[0], kept)
