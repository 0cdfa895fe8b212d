"""Wishes of rows of integers, one for each rise of a slope."""


def wish(slope, row, at):
    """How many integers behind an index of a continued row are less than the one there, by less than the steps."""
    rises = slope.rises
    count = 0
    for place, number in enumerate(row):
        distance = row[at] - number
        # Moved by the rises so many times, the number comes down to the one at the index, or too far below it.
        least = max(int(place <= at), (distance - slope.steps) // rises + 1)
        most = (distance - 1) // rises
        count = count + max(0, most - least + 1)
    return count


def wishes_of(slope, row):
    """The tuple of the wishes of a row of integers that is continued by adding the rises."""
    return tuple([wish(slope, row, at) for at in range(len(row))])


def comes_to_places(slope, row):
    """Whether some integers of at least 0, with 0 for all that lack up to the rises, are a row of wishes."""
    filled = sorted([int(number) for number in row])
    lacking = slope.rises - len(filled)
    return all([slope.rises * number <= slope.steps * (lacking + at) for at, number in enumerate(filled)])
