"""What a desk keeps at one time, and whether its promises are true."""
from slantways.checks import is_integer
from slantways.count.counts import counts_of
from slantways.shelf.shelves import Shelf
from slantways.sort.sorting import sorted_way, unsorted_way

MAX_LETTERS_OF_NAME = 8
LETTERS = "abcdefghijklmnopqrstuvwxyz"


class Keeping:
    """What a desk keeps: ways and rules by names, and promises by labels. It never changes."""

    def __init__(self, given, rules, promises):
        self._given = given
        self._rules = rules
        self._promises = promises
        self._ways = ways_by_names(given, rules)

    @property
    def given(self):
        """The dict from the given names to their ways."""
        return dict(self._given)

    @property
    def rules(self):
        """The dict from the following names to pairs of a rule and the other name."""
        return dict(self._rules)

    @property
    def promises(self):
        """The dict from the labels to their promises."""
        return dict(self._promises)

    @property
    def ways_kept(self):
        """The dict from all names to their ways."""
        return dict(self._ways)

    def with_way(self, name, way):
        """What is kept when a way has been given to a name."""
        rules = {one: self._rules[one] for one in self._rules if one != name}
        return Keeping({**self._given, name: way}, rules, self._promises)

    def with_rule(self, name, rule, other):
        """What is kept when a name has been let to follow another one."""
        given = {one: self._given[one] for one in self._given if one != name}
        return Keeping(given, {**self._rules, name: (rule, other)}, self._promises)

    def without_name(self, name):
        """What is kept without a name that no other one follows."""
        given = {one: self._given[one] for one in self._given if one != name}
        rules = {one: self._rules[one] for one in self._rules if one != name}
        return Keeping(given, rules, self._promises)

    def with_promise(self, label, promise):
        """What is kept with a promise more."""
        return Keeping(self._given, self._rules, {**self._promises, label: promise})

    def without_promise(self, label):
        """What is kept without a promise."""
        promises = {one: self._promises[one] for one in self._promises if one != label}
        return Keeping(self._given, self._rules, promises)

    def followers(self, name):
        """The ascending tuple of the names that follow a name themselves."""
        return tuple(sorted([str(one) for one in self._rules if self._rules[one][1] == name]))

    def line(self, name):
        """The list of a name, the name that it follows, the one that this follows, and so on."""
        found = [name]
        while found[-1] in self._rules:
            found.append(self._rules[found[-1]][1])
        return found

    def untrue(self):
        """The ascending tuple of the labels of all promises that are not true."""
        return tuple(sorted([str(label) for label in self._promises
                             if not is_true(self._ways, self._promises[label])]))

    def __eq__(self, other):
        return (isinstance(other, Keeping) and self._ways == other._ways and self._rules == other._rules
                and self._promises == other._promises)


def is_name(value):
    """Whether a value is a string of one to eight letters from a to z."""
    if not isinstance(value, str) or not 1 <= len(value) <= MAX_LETTERS_OF_NAME:
        return False
    return all([letter in LETTERS for letter in value])


def is_promise(value):
    """Whether a value has one of the forms of a promise."""
    if not isinstance(value, tuple) or len(value) != 3 or not is_name(value[1]):
        return False
    if value[0] in ("same", "within"):
        return is_name(value[2])
    return value[0] in ("room", "pairs") and is_integer(value[2])


def way_by_rule(rule, way):
    """The way of a name that follows one with a way by a rule."""
    if rule == "sorted":
        return sorted_way(way)
    if rule == "unsorted":
        return unsorted_way(way)
    return Shelf.of_way(way).dual().way()


def ways_by_names(given, rules):
    """The dict from all names to their ways."""
    found = dict(given)
    waiting = list(rules)
    while len(waiting) > 0:
        # No name hangs on itself, so in each round some name follows one whose way is found.
        ready = [name for name in waiting if rules[name][1] in found]
        for name in ready:
            rule, other = rules[name]
            found[name] = way_by_rule(rule, found[other])
        waiting = [name for name in waiting if name not in found]
    return found


def is_true(found, promise):
    """Whether a promise is true where names have some ways."""
    kind, name, told = promise
    if name not in found:
        return False
    if kind == "room":
        return counts_of(found[name])[0] == told
    if kind == "pairs":
        return counts_of(found[name])[1] == told
    if told not in found:
        return False
    if kind == "same":
        return found[name] == found[told]
    return Shelf.of_way(found[name]).holds(Shelf.of_way(found[told]))
