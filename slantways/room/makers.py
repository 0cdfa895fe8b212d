"""The maker rows of a room, from its shelf and its numbers."""
from slantways.room.spans import moved


def places_of(shelf):
    """The ascending tuple of the free places of a shelf."""
    steps = shelf.slope.steps
    return tuple([(maker, gap) for maker in shelf.rise_makers for gap in shelf.gaps
                  if gap > maker and gap + steps in shelf])


def maker_ring(shelf):
    """The list of the rise makers in which the rest of each one is that of the one ahead, moved by the steps."""
    rises = shelf.slope.rises
    by_rest = {maker % rises: maker for maker in shelf.rise_makers}
    return [by_rest[turn * shelf.slope.steps % rises] for turn in range(rises)]


def made_at(field, ring, entries, factors, maker, place):
    """What the moved maker rows that a maker row, moved by the steps, is made of have at a place, by [9.6]."""
    rises = len(ring)
    by_rest = {other % rises: other for other in ring}
    total = 0
    for order in factors[maker]:
        other = by_rest[order % rises]
        element = entries.get((other, other + place - order), 0)
        total = field.sums[total][field.products[factors[maker][order]][element]]
    return total


def maker_elements(field, shelf, numbers):
    """The dict from rise makers and gaps above them to the elements that the maker rows have there."""
    steps = shelf.slope.steps
    ring = maker_ring(shelf)
    entries = {place: number for place, number in zip(places_of(shelf), numbers)}
    # Each maker row, moved by the steps, is a sum of moved maker rows with these orders, times these factors.
    factors = {maker: {maker + steps: 1} for maker in ring}
    for distance in range(1, 2 * shelf.slope.half):
        # Twice round, since the element of a maker may hang on that of the next one, and some one hangs on none.
        for maker in ring[::-1] * 2:
            gap = maker + distance
            if gap not in shelf and gap + steps not in shelf:
                entries[(maker, gap)] = made_at(field, ring, entries, factors, maker, gap + steps)
        for maker in ring:
            order = maker + distance + steps
            if order in shelf:
                made = made_at(field, ring, entries, factors, maker, order)
                own = entries.get((maker, maker + distance), 0)
                factors[maker][order] = field.sums[own][field.negatives[made]]
    return entries


def moved_maker_rows(field, shelf, numbers):
    """The tuple of the maker rows of the room with a shelf and numbers, each one moved by multiples of the rises."""
    width = 2 * shelf.slope.half
    entries = maker_elements(field, shelf, numbers)
    rows = []
    for maker in shelf.rise_makers:
        row = tuple([1 if at == maker else entries.get((maker, at), 0) for at in range(width)])
        rows.extend([moved(row, order - maker) for order in range(maker, width, shelf.slope.rises)])
    return tuple(rows)
