"""Desks that keep ways under names, and promises about them, with deeds that can be taken back."""
from slantways.checks import GREATEST, is_whole_between
from slantways.desk.deeds import Keeping, is_name, is_promise
from slantways.errors import InvalidNumber, InvalidOperation, InvalidWay, NothingToUndo, Refused, TooMany, UnknownName
from slantways.way.ways import check_coprime, check_slope, check_way

MAX_NAMES = 12
MAX_PROMISES = 12
MAX_LETTERS = 24
RULES = ("dual", "sorted", "unsorted")


class Desk:
    """A desk of a slope."""

    def __init__(self, slope):
        check_slope(slope)
        check_coprime(slope)
        if slope.rises + slope.steps > MAX_LETTERS:
            raise TooMany(MAX_LETTERS)
        self._slope = slope
        self._now = Keeping({}, {}, {})
        self._past = ()
        self._future = ()

    @property
    def slope(self):
        """The slope of all ways of the desk."""
        return self._slope

    @property
    def names(self):
        """The ascending tuple of the names that the desk keeps."""
        return tuple(sorted([str(name) for name in self._now.ways_kept]))

    @property
    def labels(self):
        """The ascending tuple of the labels of the promises that the desk keeps."""
        return tuple(sorted([str(label) for label in self._now.promises]))

    @property
    def deeds(self):
        """How many deeds stand."""
        return len(self._past)

    def _do(self, after):
        """Do a deed that leads to what is kept after it, if all promises are true then."""
        untrue = after.untrue()
        if len(untrue) > 0:
            raise Refused(("promise", untrue[0]))
        self._past = self._past + (self._now,)
        self._future = ()
        self._now = after
        return len(self._past)

    def put(self, name, way):
        """Give a way to a name."""
        check_put(self, name, way)
        check_room_for(self, name)
        return self._do(self._now.with_way(name, way))

    def follow(self, name, rule, other):
        """Let a name follow another one by a rule."""
        check_name(name)
        if not isinstance(rule, str) or rule not in RULES:
            raise InvalidOperation("this is none of the three rules")
        check_kept(self, other)
        line = self._now.line(other)
        if name in line:
            raise Refused(("ring", tuple(line[:line.index(name) + 1])))
        check_room_for(self, name)
        return self._do(self._now.with_rule(name, rule, other))

    def drop(self, name):
        """Keep a name no longer."""
        check_kept(self, name)
        followers = self._now.followers(name)
        if len(followers) > 0:
            raise Refused(("followed", followers))
        return self._do(self._now.without_name(name))

    def promise(self, label, promise):
        """Keep a promise under a label."""
        check_name(label)
        if not is_promise(promise):
            raise InvalidOperation("this has none of the forms of a promise")
        promises = self._now.promises
        if label in promises:
            raise Refused(("label", label))
        if len(promises) == MAX_PROMISES:
            raise TooMany(MAX_PROMISES)
        return self._do(self._now.with_promise(label, promise))

    def free(self, label):
        """Keep a promise no longer."""
        check_promised(self, label)
        return self._do(self._now.without_promise(label))

    def undo(self, *, many=1):
        """Take the last deeds back."""
        check_many(many, len(self._past))
        for _ in range(many):
            self._future = (self._now,) + self._future
            self._now = self._past[-1]
            self._past = self._past[:-1]
        return len(self._past)

    def redo(self, *, many=1):
        """Do deeds again that were taken back."""
        check_many(many, len(self._future))
        for _ in range(many):
            self._past = self._past + (self._now,)
            self._now = self._future[0]
            self._future = self._future[1:]
        return len(self._past)

    def during(self, call):
        """What a call with the desk returns; behind it the desk is as it was before."""
        now = self._now
        past = self._past
        future = self._future
        try:
            return call(self)
        finally:
            self._now = now
            self._past = past
            self._future = future

    def kept_way(self, name):
        """The way of a name."""
        check_kept(self, name)
        return self._now.ways_kept[name]

    def rule(self, name):
        """The pair of the rule and the other name of a following name, None for a given one."""
        check_kept(self, name)
        return self._now.rules.get(name)

    def hanging(self, name):
        """The ascending tuple of the names that hang on a name."""
        check_kept(self, name)
        return tuple([one for one in self.names if name in self._now.line(one)[1:]])

    def promised(self, label):
        """The promise with a label."""
        check_promised(self, label)
        return self._now.promises[label]

    def broken_by(self, name, way):
        """The ascending tuple of the labels of all promises that would not be true if a way were put under a name."""
        check_put(self, name, way)
        return self._now.with_way(name, way).untrue()

    def twin(self):
        """An equal desk, with the same deeds to take back and to do again, that goes on by itself."""
        other = Desk(self._slope)
        other._now = self._now
        other._past = self._past
        other._future = self._future
        return other

    def __contains__(self, x):
        return isinstance(x, str) and x in self._now.ways_kept

    def __len__(self):
        return len(self._now.ways_kept)

    def __eq__(self, other):
        return isinstance(other, Desk) and self._slope == other._slope and self._now == other._now

    def __str__(self):
        return f"desk of {self._slope} with {len(self.names)} names, {len(self.labels)} promises"


def check_name(name):
    """Refuse what is neither a name nor a label."""
    if not is_name(name):
        raise InvalidOperation("a name is a string of one to eight letters from a to z")


def check_kept(desk, name):
    """Refuse what is no name that a desk keeps."""
    if name not in desk:
        raise UnknownName(name)


def check_promised(desk, label):
    """Refuse what is no label of a promise that a desk keeps."""
    if not isinstance(label, str) or label not in desk.labels:
        raise UnknownName(label)


def check_put(desk, name, way):
    """Refuse what is no name, and what is no way of the slope of a desk."""
    check_name(name)
    check_way(way)
    if way.slope != desk.slope:
        raise InvalidWay("the way has another slope than the desk")


def check_room_for(desk, name):
    """Refuse a new name beyond those that a desk can keep."""
    if name not in desk and len(desk) == MAX_NAMES:
        raise TooMany(MAX_NAMES)


def check_many(many, most):
    """Refuse what is no number of deeds, and more deeds than there are."""
    if not is_whole_between(many, 0, GREATEST):
        raise InvalidNumber(many)
    if many > most:
        raise NothingToUndo(many)
