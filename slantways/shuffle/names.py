"""Names of the rises of a way, and the steady windows that they tell."""
from slantways.checks import is_number
from slantways.count.counts import room_rows
from slantways.count.wishes import wishes_of


def is_names(way, value):
    """Whether a value is a tuple of a name for each rise of a way, and the names of each run ascend."""
    if not isinstance(value, tuple) or len(value) != way.slope.rises or not all([is_number(name) for name in value]):
        return False
    if sorted([int(name) for name in value]) != list(range(1, way.slope.rises + 1)):
        return False
    start = 0
    for run in way.runs:
        names = value[start:start + run]
        if sorted([int(name) for name in names]) != list(names):
            return False
        start = start + run
    return True


def namings(runs):
    """The list of all names of rises that ascend in each one of some runs, as tuples."""
    lots = [[() for _ in runs]]
    for name in range(1, sum(runs) + 1):
        longer = []
        for lot in list(lots):
            for at, run in enumerate(runs):
                if len(lot[at]) < run:
                    longer.append(lot[:at] + [lot[at] + (name,)] + lot[at + 1:])
        lots = longer
    return [tuple([name for names in lot for name in names]) for lot in lots]


def rise_levels(way):
    """The list of the levels ahead of the rises of a way."""
    return [level for letter, level in zip(way.text, way.levels) if letter == "r"]


def window_of(way, names):
    """The steady window of a way of a coprime slope with names of its rises."""
    rises = way.slope.rises
    back = sum(room_rows(way)) - 1
    # The rise with a name stands, moved back, where the window leads to this name.
    told = {(level - back) % rises: name - level + back for level, name in zip(rise_levels(way), names)}
    return tuple([told[place % rises] + place for place in range(1, rises + 1)])


def rises_by_wishes(way, wishes):
    """The list of the names of the rises of a way with which its steady window has some wishes."""
    levels = rise_levels(way)
    slope = way.slope
    # The wish of a rise that stands last is what the continued row alone makes of it.
    last = {level: wishes_of(slope, [other for other in levels if other != level] + [level])[-1] for level in levels}
    rows = [[]]
    for wanted in wishes:
        longer = []
        for row in list(rows):
            left = [level for level in levels if level not in row]
            for level in left:
                nearer = [other for other in left if 0 < level - other < slope.steps]
                is_free = level - slope.steps not in left
                if is_free and last[level] + len(nearer) == wanted:
                    longer.append(row + [level])
        rows = longer
    return [tuple([row.index(level) + 1 for level in levels]) for row in rows]
