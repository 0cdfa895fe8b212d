"""Rows of weights, one for each letter of a word: their levels, their sorting, and the way back."""


def running_sums(weights):
    """The list of the sums of the weights up to each place and with it."""
    level = 0
    sums = []
    for weight in weights:
        level = level + weight
        sums.append(level)
    return sums


def places_by_level(levels):
    """The list of the places, by their levels in the order of [6.2], the later one of equal levels first."""
    places = {}
    for place in range(len(levels) - 1, -1, -1):
        places.setdefault(levels[place], []).append(place)
    falling = sorted([int(level) for level in places], reverse=True)
    in_order = [level for level in falling if level < 0] + [level for level in falling if level >= 0]
    return [place for level in in_order for place in places[level]]


def raised_numbers(weights, bound):
    """The numbers that the letters of a row of weights have at the end of [6.6], with the bound m."""
    numbers = [0 for _ in weights]
    above = [0] * bound
    needed = [sum([-((weight + k) // bound) for weight in weights]) for k in range(bound)]
    waiting = list(range(bound))
    while len(waiting) > 0:
        k = waiting.pop()
        while needed[k] > above[k]:
            at = above[k]
            # If a number goes up by 1, one entry of each table goes up, too, so no sum is added up afresh.
            for number in range(numbers[at], k + 1):
                above[number] += 1
                changed = (number - weights[at]) % bound
                needed[changed] += 1
                waiting.append(changed)
            numbers[at] = k + 1
    return numbers


def levels_back(weights):
    """The list of the back levels of a row of weights [6.6]."""
    bound = 1 + sum([abs(weight) for weight in weights])
    most = sum([weight for weight in weights if weight > 0])
    numbers = raised_numbers(list(weights) + [-sum(weights)], bound)
    return [number - bound if number > most else number for number in numbers[:-1]]


def places_back(weights):
    """The list of the places of a row of weights, in the order of the row from which it is sorted [6.5]."""
    levels = levels_back(weights)
    level = sum(weights)
    places = []
    for _ in weights:
        place = levels.index(level)
        places.append(place)
        level = level - weights[place]
        levels[place] = None
    return places[::-1]
