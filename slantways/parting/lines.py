"""The lines of a way, and the points that they part from one another."""


def line_of(way, foot):
    """The pair of the first and the last one of the points that the line at the foot of a run parts from all others."""
    level = way.levels[foot]
    first = way.text[:foot].count("s") + 1
    point = first - 1
    for place in range(foot, len(way)):
        if way.text[place] == "s":
            point += 1
            if way.levels[place] > level > way.levels[place] - way.slope.rises:
                break
    return first, point - 1


def points_parted(way):
    """The list of the lists of the points of a way that no line parts."""
    feet = [place for place in range(1, len(way)) if way.text[place - 1:place + 1] == "sr"]
    lines = [line_of(way, foot) for foot in feet]
    lots = {}
    for point in range(1, way.slope.steps):
        # Points are parted by no line if they lie within the same lines.
        within = tuple([at for at, (first, last) in enumerate(lines) if first <= point <= last])
        lots.setdefault(within, []).append(point)
    return [lots[within] for within in lots]
