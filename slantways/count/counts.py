"""The room and the pairs of a way of a coprime slope."""
from slantways.heap.heaps import Heap
from slantways.shelf.shelves import check_shelf
from slantways.way.ways import check_coprime_way


def room(way):
    """The number of whole squares between a way and the line."""
    return sum(room_rows(way))


def room_rows(way):
    """The tuple of the numbers of whole squares in the rows beside the rises, from the first rise on."""
    check_coprime_way(way)
    return tuple([level // way.slope.rises for letter, level in zip(way.text, way.levels) if letter == "r"])


def sky(way):
    """The heap of the squares above a way."""
    check_coprime_way(way)
    rises = [place for place, letter in enumerate(way.text) if letter == "r"]
    steps_ahead = [place - number for number, place in enumerate(rises)]
    return Heap(tuple([steps for steps in steps_ahead[::-1] if steps > 0]))


def pairs(way):
    """The number of pairs of a way."""
    return len(paired_squares(way))


def paired_squares(way):
    """The ascending tuple of the paired squares of the sky of a way."""
    above = sky(way)
    columns = above.turned().rows
    found = []
    for at, row in enumerate(above.rows):
        for column in range(row):
            if is_paired(way.slope, row - column - 1, columns[column] - at - 1):
                found.append((at, column))
    return tuple(found)


def is_paired(slope, arm, leg):
    """Whether a square of the sky with an arm and a leg is paired."""
    return arm * slope.rises < slope.steps * (leg + 1) and slope.steps * leg < slope.rises * (arm + 1)


def level_pairs(way):
    """The ascending tuple of the pairs of a step and a rise with a greater level."""
    check_coprime_way(way)
    steps = [place for place, letter in enumerate(way.text) if letter == "s"]
    rises = [place for place, letter in enumerate(way.text) if letter == "r"]
    return tuple([(at, other) for at in steps for other in rises if way.levels[at] < way.levels[other]])


def free_numbers(shelf):
    """The tuple of the free numbers of the rise makers of a shelf."""
    check_shelf(shelf)
    steps = shelf.slope.steps
    return tuple([len([gap for gap in shelf.gaps if maker <= gap < maker + steps]) for maker in shelf.rise_makers])


def counts_of(way):
    """The pair of the room and of the number of pairs of a way."""
    return room(way), pairs(way)
