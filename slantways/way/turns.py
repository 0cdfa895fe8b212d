"""Words of the letters of a slope, and the ways that come of turning them round."""
from slantways.checks import is_whole_between
from slantways.errors import InvalidNumber, InvalidText
from slantways.way.ways import Way, check_slope, check_way, is_word, letter_levels


def check_word(slope, text):
    """Refuse what is no slope, and what is no word of it."""
    check_slope(slope)
    if not is_word(slope, text):
        raise InvalidText("this is no word of the slope")


def put_round(text, number):
    """A word with its first letters, as many as the number says, put to its end."""
    return text[number:] + text[:number]


def word_levels(slope, text):
    """The tuple of the levels ahead of all letters of a word."""
    check_word(slope, text)
    return letter_levels(slope, text)


def lowest_places(slope, text):
    """The ascending tuple of the indices of the letters ahead of which the lowest level stands."""
    levels = word_levels(slope, text)
    lowest_level = min([int(level) for level in levels])
    return tuple([place for place, level in enumerate(levels) if level == lowest_level])


def turned(slope, text, number):
    """The word that is turned by a number."""
    check_word(slope, text)
    if not is_whole_between(number, 0, len(text) - 1):
        raise InvalidNumber(number)
    return put_round(text, number)


def way_of(slope, text):
    """The pair of the least number by which a word is turned into the text of a way, and of this way."""
    place = lowest_places(slope, text)[0]
    return place, Way(slope, put_round(text, place))


def ways_among(slope, text):
    """The ascending tuple of all ways whose texts are turned words of a word."""
    found = {}
    for place in lowest_places(slope, text):
        found[put_round(text, place)] = True
    words = sorted([str(word) for word in found])
    return tuple([Way(slope, word) for word in words])


def period(slope, text):
    """The least number of letters by which a word is turned into itself."""
    check_word(slope, text)
    return (text + text).find(text, 1)


def touch_count(way):
    """How many places of a way, ahead of letters, have the level 0."""
    check_way(way)
    return way.levels.count(0)


def words_of(way):
    """The ascending tuple of all unlike words that can be turned into the text of a way."""
    check_way(way)
    words = [put_round(way.text, number) for number in range(period(way.slope, way.text))]
    return tuple(sorted([str(word) for word in words]))


def turn_to(way, text):
    """The least number by which a word can be turned into the text of a way, or None."""
    check_way(way)
    check_word(way.slope, text)
    number = (text + text).find(way.text)
    return None if number == -1 else number
