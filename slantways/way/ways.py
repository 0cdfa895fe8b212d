"""Slopes, and the ways that stay on one side of their lines."""
from math import comb, factorial, gcd, perm

from slantways.checks import is_whole_between
from slantways.errors import InvalidNumber, InvalidOperation, InvalidSlope, InvalidText, InvalidWay, ParseError, Refused

MAX_SIDE = 60
DIGITS = "0123456789"


def read_side(text, start):
    """The pair of the longest number from 1 to 60 that begins at an index, and of the index behind it."""
    number = 0
    index = start
    while index < len(text) and text[index] in DIGITS:
        longer = number * 10 + DIGITS.find(text[index])
        if not 1 <= longer <= MAX_SIDE:
            break
        number = longer
        index += 1
    if number == 0:
        raise ParseError(start)
    return number, index


class Slope:
    """A slope, with its numbers of rises and of steps."""

    def __init__(self, rises, steps):
        if not is_whole_between(rises, 1, MAX_SIDE):
            raise InvalidNumber(rises)
        if not is_whole_between(steps, 1, MAX_SIDE):
            raise InvalidNumber(steps)
        self._rises = rises
        self._steps = steps
        self._common = gcd(rises, steps)

    @classmethod
    def of_text(cls, text):
        """The slope with a text like 3:5."""
        if not isinstance(text, str):
            raise InvalidText("the text of a slope is a string")
        rises, middle = read_side(text, 0)
        if middle == len(text) or text[middle] != ":":
            raise ParseError(middle)
        steps, end = read_side(text, middle + 1)
        if end < len(text):
            raise ParseError(end)
        return cls(rises, steps)

    @property
    def rises(self):
        """The number of rises."""
        return self._rises

    @property
    def steps(self):
        """The number of steps."""
        return self._steps

    @property
    def common(self):
        """The greatest common divisor of both numbers."""
        return self._common

    @property
    def is_coprime(self):
        """Whether both numbers have no common divisor but 1."""
        return self._common == 1

    @property
    def half(self):
        """The number of whole squares between the highest way and the line, for a coprime slope."""
        check_coprime(self)
        return (self._rises - 1) * (self._steps - 1) // 2

    def exchanged(self):
        """The slope with rises and steps exchanged."""
        return Slope(self._steps, self._rises)

    def __eq__(self, other):
        return isinstance(other, Slope) and self._rises == other._rises and self._steps == other._steps

    def __str__(self):
        return f"{self._rises}:{self._steps}"


class Way:
    """A way of a slope."""

    def __init__(self, slope, text):
        if not is_way(slope, text):
            raise InvalidWay("the text is not that of a way of the slope")
        self._slope = slope
        self._text = text
        self._levels = letter_levels(slope, text)
        self._runs = tuple([len(run) for run in text.split("s") if run != ""])
        self._key = (slope.rises, slope.steps, text)

    @property
    def slope(self):
        """The slope of the way."""
        return self._slope

    @property
    def text(self):
        """The letters of the way, in one string."""
        return self._text

    @property
    def levels(self):
        """The tuple of the levels ahead of the letters."""
        return self._levels

    @property
    def runs(self):
        """The tuple of the lengths of the longest stretches of rises."""
        return self._runs

    def exchanged(self):
        """The way of the exchanged slope that is read from the end."""
        letters = ["s" if letter == "r" else "r" for letter in self._text[::-1]]
        return Way(self._slope.exchanged(), "".join(letters))

    def __len__(self):
        return len(self._text)

    def __iter__(self):
        return iter(self._text)

    def __lt__(self, other):
        if not isinstance(other, Way):
            return NotImplemented
        return self._key < other._key

    def __eq__(self, other):
        if not isinstance(other, Way):
            return NotImplemented
        return self._key == other._key

    def __str__(self):
        return str(self._text)


def check_slope(slope):
    """Refuse what is no slope."""
    if not isinstance(slope, Slope):
        raise InvalidSlope("this is no object of Slope")


def check_way(way):
    """Refuse what is no way."""
    if not isinstance(way, Way):
        raise InvalidWay("this is no object of Way")


def check_coprime(slope):
    """Refuse a slope whose numbers have a common part."""
    if not slope.is_coprime:
        raise Refused(("common", slope.common))


def check_coprime_way(way):
    """Refuse what is no way, and a way of a slope whose numbers have a common part."""
    check_way(way)
    check_coprime(way.slope)


def letter_levels(slope, text):
    """The tuple of the levels ahead of the letters of a string of r and s."""
    rises = slope.rises
    steps = slope.steps
    level = 0
    levels = []
    for letter in text:
        levels.append(level)
        level = level + steps if letter == "r" else level - rises
    return tuple(levels)


def is_word(slope, value):
    """Whether a value is a string with just the rises and the steps of a slope, in any order."""
    if not isinstance(value, str) or len(value) != slope.rises + slope.steps:
        return False
    return value.count("r") == slope.rises and value.count("s") == slope.steps


def is_way(slope, value):
    """Whether a value is the text of a way of a slope."""
    check_slope(slope)
    return is_word(slope, value) and not any([level < 0 for level in letter_levels(slope, value)])


def way_count(slope):
    """How many ways a slope has, by the sum of [1.2] over the multiples of its coprime part."""
    check_slope(slope)
    rises = slope.rises // slope.common
    letters = rises + slope.steps // slope.common
    counts = [1]
    for size in range(1, slope.common + 1):
        total = 0
        for part in range(1, size + 1):
            total = total + counts[size - part] * (comb(part * letters, part * rises) // letters)
        counts.append(total // size)
    return counts[slope.common]


def following(way):
    """The least way of the same slope that is greater than a way, or None."""
    rises = way.slope.rises
    for place in range(len(way) - 1, -1, -1):
        # The last letter is a step, so a step can always be fetched from behind a rise.
        if way.text[place] == "r" and way.levels[place] >= rises:
            behind = way.text[place + 1:]
            start = way.text[:place] + "s"
            rest = "r" * (behind.count("r") + 1) + "s" * (behind.count("s") - 1)
            return Way(way.slope, start + rest)
    return None


def ways(slope):
    """A generator that yields all ways of a slope, ascending."""
    way = highest(slope)
    while way is not None:
        yield way
        way = following(way)


def completions(slope):
    """The table that tells at [i][j] in how many manners a way goes on behind i rises and j steps."""
    rises = slope.rises
    steps = slope.steps
    table = [[0] * (steps + 2) for _ in range(rises + 2)]
    # One entry beyond the last corner stands for the end, so that this corner counts once.
    table[rises + 1][steps] = 1
    for up in range(rises, -1, -1):
        for along in range(steps, -1, -1):
            if up * steps >= along * rises:
                table[up][along] = table[up + 1][along] + table[up][along + 1]
    return table


def way_at(slope, index):
    """The way with an index among all ways of a slope, ascending."""
    if not is_whole_between(index, 0, way_count(slope) - 1):
        raise InvalidNumber(index)
    table = completions(slope)
    left = index
    up = 0
    along = 0
    letters = []
    while len(letters) < slope.rises + slope.steps:
        with_rise = table[up + 1][along]
        if left < with_rise:
            letters.append("r")
            up += 1
        else:
            left = left - with_rise
            letters.append("s")
            along += 1
    return Way(slope, "".join(letters))


def way_index(way):
    """The index of a way among all ways of its slope, ascending."""
    check_way(way)
    table = completions(way.slope)
    index = 0
    up = 0
    along = 0
    for letter in way.text:
        if letter == "r":
            up += 1
        else:
            index = index + table[up + 1][along]
            along += 1
    return index


def highest(slope):
    """The way that begins with all rises."""
    check_slope(slope)
    return Way(slope, "r" * slope.rises + "s" * slope.steps)


def lowest(slope):
    """The way that goes on with a step wherever the level allows it."""
    check_slope(slope)
    level = 0
    letters = []
    while len(letters) < slope.rises + slope.steps:
        if level < slope.rises:
            letters.append("r")
            level = level + slope.steps
        else:
            letters.append("s")
            level = level - slope.rises
    return Way(slope, "".join(letters))


def is_split(value, total):
    """Whether a value is a tuple of integers of at least 1 with a sum."""
    if not isinstance(value, tuple):
        return False
    left = total
    for part in value:
        if not is_whole_between(part, 1, left):
            return False
        left = left - part
    return left == 0


def run_count(slope, lengths):
    """How many ways of a coprime slope have runs with some lengths, in any order."""
    check_slope(slope)
    check_coprime(slope)
    if not is_split(lengths, slope.rises):
        raise InvalidOperation("the lengths of runs are integers of at least 1 that sum up to the rises")
    # perm is 0 if there are more runs than steps, as [1.4] asks for.
    count = perm(slope.steps - 1, len(lengths) - 1)
    for length in range(1, slope.rises + 1):
        count = count // factorial(lengths.count(length))
    return count
