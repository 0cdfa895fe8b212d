"""Promises [14.1] to [14.4]: long rows of deeds on a desk, held against an own book."""
import unittest

from slantways.desk.desk import Desk
from slantways.errors import NothingToUndo, Refused, TooMany, UnknownName
from slantways.way.ways import Slope, Way
from tests.helper import Case, levels_of, own_counts, way_texts

NAMES = ["a", "b", "c", "dd", "e", "f", "g", "h", "i", "j", "k", "l", "m", "n"]
LABELS = ["p", "q", "r", "s", "t", "a"]


class Book:
    """What a desk should keep: each deed makes a new page, and each page tells all from what was put on it."""

    def __init__(self, rises, steps):
        self.sides = (rises, steps)
        self.texts = way_texts(rises, steps)
        self.pages = [({}, {})]
        self.later = []
        sort = {text: self.sorted_text(text) for text in self.texts}
        self.by_rule = {"sorted": sort, "unsorted": {sort[text]: text for text in sort},
                        "dual": {text: self.dual_text(text) for text in self.texts}}

    def sorted_text(self, text):
        """The letters by their levels."""
        pairs = sorted(zip(levels_of(*self.sides, text), text))
        return "".join(letter for _, letter in pairs)

    def gaps(self, text):
        """The gaps of the shelf of a way."""
        rises = self.sides[0]
        levels = [level for level, letter in zip(levels_of(*self.sides, text), text) if letter == "r"]
        return {x for level in levels for x in range(level % rises, level, rises)}

    def dual_text(self, text):
        """The way of the dual shelf."""
        gaps = self.gaps(text)
        last = max(gaps, default=-1)
        dual = {last - x for x in range(last) if x not in gaps}
        return next(one for one in self.texts if self.gaps(one) == dual)

    def ways(self, page):
        """The texts of all names on a page."""
        entries, _ = page
        found = {}
        for name in entries:
            line = [name]
            while entries[line[-1]][0] is not None:
                line.append(entries[line[-1]][1])
            text = entries[line[-1]][1]
            for one in line[-2::-1]:
                text = self.by_rule[entries[one][0]][text]
            found[name] = text
        return found

    def untrue(self, page):
        """The ascending labels of the promises of a page that are not true."""
        found = self.ways(page)
        return sorted(label for label, promise in page[1].items() if not self.is_true(found, promise))

    def is_true(self, found, promise):
        """Whether a promise is true."""
        kind, name, told = promise
        if name not in found or (kind in ("same", "within") and told not in found):
            return False
        if kind == "same":
            return found[name] == found[told]
        if kind == "within":
            return self.gaps(found[name]) <= self.gaps(found[told])
        return own_counts(*self.sides, found[name])[kind == "pairs"] == told

    def line(self, name):
        """A name, the one that it follows, and so on."""
        entries = self.pages[-1][0]
        found = [name]
        while entries[found[-1]][0] is not None:
            found.append(entries[found[-1]][1])
        return found

    def turn(self, page):
        """Turn to a new page, or tell why not."""
        untrue = self.untrue(page)
        if untrue:
            return Refused, ("promise", untrue[0])
        self.pages.append(page)
        self.later = []
        return len(self.pages) - 1

    def do(self, deed, *told):
        """Do a deed: the number of deeds, or the error and what it keeps."""
        entries, promises = self.pages[-1]
        if deed == "put":
            name, text = told
            if name not in entries and len(entries) == 12:
                return TooMany, 12
            return self.turn(({**entries, name: (None, text)}, promises))
        if deed == "follow":
            return self.follow(entries, promises, *told)
        if deed == "drop":
            return self.drop(entries, promises, *told)
        if deed == "promise":
            label, promise = told
            if label in promises:
                return Refused, ("label", label)
            return self.turn((entries, {**promises, label: promise}))
        if deed == "free":
            if told[0] not in promises:
                return UnknownName, told[0]
            return self.turn((entries, {label: promises[label] for label in promises if label != told[0]}))
        return self.back(*told) if deed == "undo" else self.again(*told)

    def follow(self, entries, promises, name, rule, other):
        """Let a name follow another one."""
        if other not in entries:
            return UnknownName, other
        line = self.line(other)
        if name in line:
            return Refused, ("ring", tuple(line[:line.index(name) + 1]))
        if name not in entries and len(entries) == 12:
            return TooMany, 12
        return self.turn(({**entries, name: (rule, other)}, promises))

    def drop(self, entries, promises, name):
        """Keep a name no longer."""
        if name not in entries:
            return UnknownName, name
        followers = sorted(one for one in entries if entries[one][0] is not None and entries[one][1] == name)
        if followers:
            return Refused, ("followed", tuple(followers))
        return self.turn(({one: entries[one] for one in entries if one != name}, promises))

    def back(self, many):
        """Take deeds back."""
        if many > len(self.pages) - 1:
            return NothingToUndo, many
        for _ in range(many):
            self.later.append(self.pages.pop())
        return len(self.pages) - 1

    def again(self, many):
        """Do deeds again."""
        if many > len(self.later):
            return NothingToUndo, many
        for _ in range(many):
            self.pages.append(self.later.pop())
        return len(self.pages) - 1


class Numbers:
    """A fixed row of numbers without an order that can be seen."""

    def __init__(self, start):
        self.now = start

    def below(self, most):
        """The next number, below another one."""
        self.now = (self.now * 6364136223846793005 + 1442695040888963407) % 2 ** 64
        return (self.now >> 33) % most

    def one_of(self, values):
        """The next one of some values."""
        return values[self.below(len(values))]


def next_deed(numbers, book):
    """A deed with its arguments, most of them such that can be done."""
    names = NAMES[:4 + numbers.below(11)]
    deed = numbers.one_of(["put", "put", "put", "follow", "follow", "follow", "drop", "promise", "promise", "free",
                           "undo", "redo", "redo"])
    if deed == "put":
        return deed, numbers.one_of(names), numbers.one_of(book.texts)
    if deed == "follow":
        return deed, numbers.one_of(names), numbers.one_of(["dual", "sorted", "unsorted"]), numbers.one_of(names)
    if deed == "drop":
        return deed, numbers.one_of(names)
    if deed == "free":
        return deed, numbers.one_of(LABELS)
    if deed in ("undo", "redo"):
        return deed, numbers.below(3 if numbers.below(4) else 9)
    kind = numbers.one_of(["same", "within", "room", "pairs"])
    told = numbers.one_of(names) if kind in ("same", "within") else numbers.below(4)
    return deed, numbers.one_of(LABELS), (kind, numbers.one_of(names), told)


class BookTest(Case):
    def do(self, desk, book, deed, *told):
        """Do a deed on a desk and in the book, and compare what both tell of it."""
        slope = desk.slope
        wanted = book.do(deed, *told)
        given = (told[0], Way(slope, told[1])) if deed == "put" else told
        call = getattr(desk, deed)
        calling = (lambda: call(many=told[0])) if deed in ("undo", "redo") else (lambda: call(*given))
        if isinstance(wanted, tuple):
            self.raised_number(wanted[0], wanted[1], calling)
        else:
            self.same(calling(), wanted)

    def compare(self, desk, book):
        """Compare all that a desk tells with the last page of the book."""
        entries, promises = book.pages[-1]
        found = book.ways(book.pages[-1])
        self.assertEqual((desk.names, desk.labels), (tuple(sorted(entries)), tuple(sorted(promises))))
        self.assertEqual((desk.deeds, len(desk)), (len(book.pages) - 1, len(entries)))
        self.assertEqual(str(desk), f"desk of {desk.slope} with {len(entries)} names, {len(promises)} promises")
        for name in entries:
            self.assertEqual(desk.kept_way(name).text, found[name])
            rule = entries[name] if entries[name][0] is not None else None
            self.assertEqual(desk.rule(name), rule)
            hanging = [one for one in entries if one != name and name in book.line(one)]
            self.assertEqual(desk.hanging(name), tuple(sorted(hanging)))
        for label in promises:
            self.assertEqual(desk.promised(label), promises[label])

    def look_ahead(self, desk, book, numbers):
        """Compare what would be broken, and what happens during a call and on a twin, without a change."""
        name, text = numbers.one_of(NAMES), numbers.one_of(book.texts)
        entries, promises = book.pages[-1]
        broken = book.untrue(({**entries, name: (None, text)}, promises))
        self.assertEqual(desk.broken_by(name, Way(desk.slope, text)), tuple(broken))
        pages, later = list(book.pages), list(book.later)
        for other in (desk.twin(), desk):
            deeds = [next_deed(numbers, book) for _ in range(3)]

            def call(one):
                for deed in deeds:
                    self.do(one, book, *deed)
                self.compare(one, book)
                return one.deeds

            if other is desk:
                self.assertEqual(desk.during(call), len(book.pages) - 1)
            else:
                self.assertEqual(other, desk)
                call(other)
            book.pages, book.later = list(pages), list(later)

    def run_deeds(self, rises, steps, start, many):
        """Do a long row of deeds on one desk."""
        desk, book, numbers = Desk(Slope(rises, steps)), Book(rises, steps), Numbers(start)
        for at in range(many):
            self.do(desk, book, *next_deed(numbers, book))
            if at % 10 == 0:
                self.look_ahead(desk, book, numbers)
            if at % 3 == 0:
                self.compare(desk, book)
        self.compare(desk, book)
        return desk

    def test_rows_of_deeds(self):
        for rises, steps in ((3, 5), (2, 3), (4, 3), (5, 4), (1, 7)):
            for start in range(6):
                self.run_deeds(rises, steps, start, 150)

    def test_equal_rows_make_equal_desks(self):
        self.assertEqual(self.run_deeds(3, 4, 99, 200), self.run_deeds(3, 4, 99, 200))


if __name__ == "__main__":
    unittest.main()
