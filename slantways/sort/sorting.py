"""Sorting of words over weighted letters, and of ways, by levels."""
from slantways.checks import is_same_row, is_whole_between
from slantways.errors import InvalidScale, InvalidText, TooMany, UnknownName
from slantways.sort.levels import levels_back, places_back, places_by_level, running_sums
from slantways.way.ways import Way, check_coprime_way

MAX_WEIGHT = 12
MAX_TEXT = 24
MAX_SORTED_WAY = 40
MAX_ROUNDS = 5000
LETTERS = "abcde"


class Scale:
    """A scale: letters with weights."""

    def __init__(self, weights):
        if not is_weights(weights):
            raise InvalidScale("a scale is a dict from letters a to e to weights from -12 to 12")
        self._letters = "".join([letter for letter in LETTERS if letter in weights])
        self._weights = {letter: weights[letter] for letter in self._letters}

    @property
    def weights(self):
        """The dict from the letters, ascending, to their weights."""
        return dict(self._weights)

    @property
    def letters(self):
        """The ascending string of the letters."""
        return self._letters

    def place_levels(self, text):
        """The tuple of the levels of all places of a text."""
        return tuple(running_sums(weights_of(self, text)))

    def order(self, text):
        """The tuple of the places of a text in its order."""
        return tuple(places_by_level(running_sums(weights_of(self, text))))

    def sorted_text(self, text):
        """The sorted text of a text."""
        return "".join([text[place] for place in self.order(text)])

    def back_levels(self, text):
        """The tuple of the levels of the text from which a text is sorted, in the order of that text."""
        return tuple(levels_back(weights_of(self, text)))

    def is_back_levels(self, text, value):
        """Whether a value is the tuple of the back levels of a text."""
        return is_same_row(value, self.back_levels(text))

    def unsorted(self, text):
        """The text from which a text is sorted."""
        return "".join([text[place] for place in places_back(weights_of(self, text))])

    def is_order(self, text, value):
        """Whether a value is the order of a text."""
        return is_same_row(value, self.order(text))

    def course(self, text):
        """A generator that yields a text, then the sorted one, and so on, until the text would come back."""
        check_text(self, text)
        one = text
        many = 0
        while many == 0 or one != text:
            if many == MAX_ROUNDS:
                raise TooMany(MAX_ROUNDS)
            yield one
            many += 1
            one = self.sorted_text(one)

    def rounds(self, text):
        """How many texts the course of a text has."""
        return len(list(self.course(text)))

    def way_to(self, text, other):
        """How many sortings, as few as can be, lead from a text to another one, or None."""
        check_text(self, text)
        check_text(self, other)
        for many, one in enumerate(self.course(text)):
            if one == other:
                return many
        return None

    def __getitem__(self, at):
        if at not in self:
            raise UnknownName(at)
        return self._weights[at]

    def __iter__(self):
        raise TypeError("a scale is not iterated over")

    def __invert__(self):
        return Scale({letter: -self._weights[letter] for letter in self._letters})

    def __contains__(self, x):
        return isinstance(x, str) and x in self._weights

    def __len__(self):
        return len(self._letters)

    def __eq__(self, other):
        return isinstance(other, Scale) and self._weights == other._weights

    def __str__(self):
        return " ".join([f"{letter}{self._weights[letter]}" for letter in self._letters])


def is_weights(value):
    """Whether a value is a dict from one to five letters to weights."""
    if not isinstance(value, dict) or len(value) == 0:
        return False
    for letter in value:
        if not isinstance(letter, str) or len(letter) != 1 or letter not in LETTERS:
            return False
        if not is_whole_between(value[letter], -MAX_WEIGHT, MAX_WEIGHT):
            return False
    return True


def check_text(scale, text):
    """Refuse what is no text of a scale."""
    if not isinstance(text, str) or len(text) > MAX_TEXT or any([letter not in scale for letter in text]):
        raise InvalidText("this is no text of the scale")


def weights_of(scale, text):
    """The list of the weights of the letters of a text, which is refused if it is none."""
    check_text(scale, text)
    return [scale[letter] for letter in text]


def check_short_way(way):
    """Refuse what is no way of a coprime slope, and a way with too many letters."""
    check_coprime_way(way)
    if len(way) > MAX_SORTED_WAY:
        raise TooMany(MAX_SORTED_WAY)


def sorted_way(way):
    """The way that has the letters of a way by their levels, the least one first."""
    check_coprime_way(way)
    letters = {level: letter for letter, level in zip(way.text, way.levels)}
    return Way(way.slope, "".join([letters[level] for level in sorted([int(level) for level in way.levels])]))


def unsorted_way(way):
    """The way from which a way is sorted."""
    check_short_way(way)
    # Ways that are read from the end are sorted like words, if a rise weighs -b and a step a.
    text = way.text[::-1]
    weights = [-way.slope.steps if letter == "r" else way.slope.rises for letter in text]
    letters = [text[place] for place in places_back(weights)]
    return Way(way.slope, "".join(letters[::-1]))


def way_rounds(way):
    """How many sortings, at least one, lead a way back to itself."""
    check_short_way(way)
    one = sorted_way(way)
    many = 1
    while one != way:
        if many == MAX_ROUNDS:
            raise TooMany(MAX_ROUNDS)
        one = sorted_way(one)
        many += 1
    return many
