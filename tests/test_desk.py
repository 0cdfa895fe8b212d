"""Promises [14.1] to [14.4], and the class Desk."""
import inspect
import unittest
from math import gcd

from slantways.count.counts import counts_of
from slantways.desk.desk import MAX_LETTERS, MAX_NAMES, MAX_PROMISES, RULES, Desk
from slantways.errors import (
    InvalidNumber, InvalidOperation, InvalidSlope, InvalidWay, NothingToUndo, Refused, TooMany, UnknownName,
)
from slantways.shelf.shelves import Shelf
from slantways.sort.sorting import sorted_way, unsorted_way
from slantways.way.ways import Slope, Way, highest, lowest, ways
from tests.helper import Case, wrong_for, wrong_numbers, wrong_values

SLOPE = Slope(3, 5)
HIGH, LOW, MID = Way(SLOPE, "rrrsssss"), Way(SLOPE, "rsrssrss"), Way(SLOPE, "rrsrssss")
NO_NAMES = ["", "A", "u1", "u ", " u", "abcdefghi", "u\n", "-", "u.v", "U", "r3"]


def no_names():
    """Values that are neither names nor labels."""
    return NO_NAMES + [value for value in wrong_values() if value not in ("r", "s", "rs")]


def dual_way(way):
    """The way of the dual shelf of the shelf of a way."""
    return Shelf.of_way(way).dual().way()


def example():
    """The desk of the example, behind its first three deeds."""
    desk = Desk(SLOPE)
    desk.put("u", HIGH)
    desk.follow("v", "sorted", "u")
    desk.promise("p", ("room", "v", 0))
    return desk


def state(desk):
    """All that a desk tells of itself."""
    names = desk.names
    return (desk.slope, names, [desk.kept_way(name) for name in names], [desk.rule(name) for name in names],
            [desk.hanging(name) for name in names], desk.labels, [desk.promised(label) for label in desk.labels],
            desk.deeds, len(desk), str(desk))


class ExamplesTest(Case):
    def test_deeds(self):
        desk = Desk(SLOPE)
        shown = [desk.put("u", HIGH), desk.follow("v", "sorted", "u"), desk.promise("p", ("room", "v", 0)),
                 desk.kept_way("v") == LOW, desk.rule("v"), desk.hanging("u"), str(desk)]
        self.assertEqual(shown, [1, 2, 3, True, ("sorted", "u"), ("v",), "desk of 3:5 with 2 names, 1 promises"])
        shown = [desk.broken_by("u", LOW), desk.during(lambda one: one.free("p")), desk.labels, desk.deeds]
        self.assertEqual(shown, [("p",), 4, ("p",), 3])
        self.raised_number(Refused, ("promise", "p"), desk.put, "u", LOW)
        self.raised_number(Refused, ("ring", ("v", "u")), desk.follow, "u", "dual", "v")
        shown = [desk.undo(), desk.put("u", LOW), desk.kept_way("v") == HIGH, desk.undo(many=2), desk.names,
                 desk.redo(), desk.names]
        self.assertEqual(shown, [2, 3, True, 1, ("u",), 2, ("u", "v")])


class DeskTest(Case):
    def test_constants(self):
        self.same((MAX_NAMES, MAX_PROMISES, MAX_LETTERS), (12, 12, 24))
        self.same(RULES, ("dual", "sorted", "unsorted"))

    def test_empty(self):
        for slope in (SLOPE, Slope(1, 1), Slope(1, 23), Slope(11, 13), Slope(23, 1)):
            desk = Desk(slope)
            shown = [desk.slope, desk.names, desk.labels, desk.deeds, len(desk), str(desk), "u" in desk]
            self.assertEqual(shown, [slope, (), (), 0, 0, f"desk of {slope} with 0 names, 0 promises", False])

    def test_slopes(self):
        for value in wrong_for(Slope):
            self.raised(InvalidSlope, Desk, value)
        for rises, steps in ((2, 2), (4, 6), (60, 60), (20, 10)):
            self.raised_number(Refused, ("common", gcd(rises, steps)), Desk, Slope(rises, steps))
        for rises, steps in ((1, 24), (12, 13), (24, 1), (60, 59)):
            self.raised_number(TooMany, 24, Desk, Slope(rises, steps))

    def test_parameters(self):
        for call in (Desk.undo, Desk.redo):
            found = inspect.signature(call).parameters["many"]
            self.assertEqual((found.kind, found.default), (inspect.Parameter.KEYWORD_ONLY, 1))
        self.raised(TypeError, example().undo, 1)

    def test_contains(self):
        desk = example()
        for value in wrong_values() + ["u", "v", "p", "w", ("u",), ["u"]]:
            self.assertIs(value in desk, value in ("u", "v"))
        for call in (lambda: list(desk), lambda: desk[0], lambda: desk["u"], lambda: desk < desk, lambda: desk + desk):
            self.raised(TypeError, call)

    def test_equal(self):
        desk = example()
        self.assertIs(desk == example(), True)
        self.assertIs(desk != example(), False)
        # What was done does not matter, only what is kept.
        other = Desk(SLOPE)
        other.put("x", LOW)
        other.put("u", LOW)
        other.put("u", HIGH)
        other.follow("v", "dual", "x")
        other.follow("v", "sorted", "u")
        other.drop("x")
        self.assertIs(desk == other, False)
        other.promise("p", ("room", "v", 0))
        self.assertIs(desk == other, True)
        other.free("p")
        other.promise("q", ("room", "v", 0))
        self.assertIs(desk == other, False)
        other.free("q")
        other.promise("p", ("room", "v", 0))
        other.put("v", LOW)
        # The same ways, but no rule.
        self.assertIs(desk == other, False)
        self.assertIs(Desk(SLOPE) == Desk(Slope(5, 3)), False)
        for value in wrong_for(Desk):
            self.assertIs(desk == value, False)
            self.assertIs(desk != value, True)

    def test_properties_are_read_only(self):
        desk = example()
        for name in ("slope", "names", "labels", "deeds"):
            with self.assertRaises(AttributeError):
                setattr(desk, name, ())


class RulesTest(Case):
    def test_rules(self):
        for slope in (SLOPE, Slope(5, 3), Slope(4, 5), Slope(2, 9), Slope(1, 6)):
            desk = Desk(slope)
            desk.put("u", highest(slope))
            for name, rule in (("s", "sorted"), ("t", "unsorted"), ("d", "dual")):
                desk.follow(name, rule, "u")
            desk.follow("e", "dual", "d")
            desk.follow("a", "unsorted", "s")
            desk.follow("b", "sorted", "t")
            for label, name in (("one", "e"), ("two", "a"), ("three", "b")):
                desk.promise(label, ("same", "u", name))
            for way in ways(slope):
                desk.put("u", way)
                shown = [desk.kept_way(name) for name in ("s", "t", "d")]
                self.assertEqual(shown, [sorted_way(way), unsorted_way(way), dual_way(way)])
                self.assertEqual(counts_of(desk.kept_way("s"))[0], counts_of(way)[1])
                self.assertEqual([desk.kept_way(name) for name in "eab"], [way] * 3)
            self.assertEqual(desk.labels, ("one", "three", "two"))

    def test_hanging(self):
        desk = Desk(SLOPE)
        desk.put("m", HIGH)
        for name, other in (("n", "m"), ("a", "n"), ("z", "a"), ("b", "m")):
            desk.follow(name, "dual", other)
        shown = [desk.hanging("m"), desk.hanging("n"), desk.hanging("a"), desk.hanging("z"), desk.hanging("b")]
        self.assertEqual(shown, [("a", "b", "n", "z"), ("a", "z"), ("z",), (), ()])
        self.assertEqual([desk.rule("m"), desk.rule("z")], [None, ("dual", "a")])
        desk.put("n", LOW)
        self.assertEqual([desk.hanging("m"), desk.rule("n"), desk.kept_way("n")], [("b",), None, LOW])
        self.raised_number(Refused, ("ring", ("z", "a", "n")), desk.follow, "n", "sorted", "z")
        self.raised_number(Refused, ("ring", ("n",)), desk.follow, "n", "sorted", "n")
        self.raised_number(Refused, ("followed", ("a",)), desk.drop, "n")
        desk.follow("c", "dual", "n")
        self.raised_number(Refused, ("followed", ("a", "c")), desk.drop, "n")
        # A given name can follow one that hung on it, once that one follows another name.
        desk.follow("a", "sorted", "m")
        self.assertEqual(desk.follow("n", "unsorted", "z"), desk.deeds)

    def test_follows_anew(self):
        desk = example()
        desk.free("p")
        desk.follow("v", "dual", "u")
        self.assertEqual([desk.rule("v"), desk.kept_way("v")], [("dual", "u"), dual_way(HIGH)])
        desk.follow("ux", "sorted", "v")
        self.assertEqual([desk.hanging("u"), desk.kept_way("ux")], [("ux", "v"), sorted_way(dual_way(HIGH))])


class PromisesTest(Case):
    def test_kinds(self):
        desk = Desk(SLOPE)
        desk.put("h", HIGH)
        desk.put("m", MID)
        desk.put("l", LOW)
        true = [("same", "h", "h"), ("room", "h", 4), ("pairs", "l", 4), ("pairs", "m", counts_of(MID)[1]),
                ("within", "l", "m"), ("within", "m", "h"), ("within", "m", "m")]
        false = [("same", "h", "m"), ("room", "h", 3), ("room", "h", -1), ("room", "h", 10 ** 60 - 1),
                 ("pairs", "l", 0), ("within", "h", "m"), ("same", "h", "x"), ("same", "x", "h"), ("room", "x", 0),
                 ("within", "x", "x"), ("pairs", "x", 1), ("within", "h", "x")]
        for promise in true:
            deeds = desk.promise("p", promise)
            self.assertEqual((desk.promised("p"), desk.labels, desk.deeds), (promise, ("p",), deeds))
            self.assertEqual(desk.free("p"), deeds + 1)
        for promise in false:
            self.raised_number(Refused, ("promise", "p"), desk.promise, "p", promise)
            self.assertEqual(desk.labels, ())

    def test_within_by_gaps(self):
        desk = Desk(SLOPE)
        for one in ways(SLOPE):
            for other in ways(SLOPE):
                desk.put("x", one)
                desk.put("y", other)
                within = set(Shelf.of_way(one).gaps) <= set(Shelf.of_way(other).gaps)
                try:
                    desk.promise("p", ("within", "x", "y"))
                    self.assertTrue(within)
                    desk.free("p")
                except Refused as refused:
                    self.assertEqual((refused.reason, within), (("promise", "p"), False))

    def test_least_label(self):
        desk = example()
        desk.promise("o", ("pairs", "v", 4))
        desk.promise("q", ("same", "u", "u"))
        self.raised_number(Refused, ("promise", "o"), desk.put, "u", LOW)
        self.raised_number(Refused, ("promise", "o"), desk.drop, "v")
        self.assertEqual(desk.broken_by("u", LOW), ("o", "p"))
        self.assertEqual(desk.broken_by("v", MID), ("o", "p"))
        self.assertEqual([desk.broken_by("u", HIGH), desk.broken_by("w", LOW)], [(), ()])
        desk.free("o")
        self.raised_number(Refused, ("promise", "p"), desk.drop, "v")
        self.raised_number(Refused, ("promise", "p"), desk.follow, "v", "dual", "u")
        desk.free("p")
        self.assertEqual(desk.drop("v"), desk.deeds)
        self.raised_number(Refused, ("promise", "q"), desk.drop, "u")

    def test_own_label(self):
        desk = example()
        self.raised_number(Refused, ("label", "p"), desk.promise, "p", ("room", "v", 0))
        self.raised_number(Refused, ("label", "p"), desk.promise, "p", ("room", "v", 1))
        self.raised_number(Refused, ("promise", "a"), desk.promise, "a", ("room", "v", 1))
        self.assertEqual(desk.promise("u", ("room", "u", 4)), 4)

    def test_refused_changes_nothing(self):
        desk = example()
        desk.undo()
        before = state(desk)
        for call, arguments in ((desk.promise, ("p", ("room", "v", 1))), (desk.drop, ("u",)), (desk.drop, ("w",)),
                                (desk.follow, ("u", "dual", "v")), (desk.put, ("u", lowest(Slope(5, 3)))),
                                (desk.free, ("p",)), (desk.follow, ("w", "dual", "w"))):
            with self.assertRaises(Exception):
                call(*arguments)
            self.assertEqual(state(desk), before)
        # The deed that was taken back can still be done again.
        self.assertEqual((desk.redo(), desk.labels), (3, ("p",)))


class UndoTest(Case):
    def test_many(self):
        desk = example()
        states = [state(desk)]
        for many in range(3):
            desk.undo()
            states.append(state(desk))
        self.assertEqual([one[7] for one in states], [3, 2, 1, 0])
        self.assertEqual((desk.undo(many=0), desk.redo(many=0), desk.redo(many=3)), (0, 0, 3))
        for back in range(4):
            for again in range(back + 1):
                self.assertEqual(desk.undo(many=back), 3 - back)
                self.assertEqual(desk.redo(many=again), 3 - back + again)
                self.assertEqual(state(desk), states[back - again])
                desk.redo(many=back - again)
        self.assertEqual(desk, example())

    def test_a_deed_ends_redo(self):
        desk = example()
        desk.undo(many=2)
        self.raised_number(NothingToUndo, 3, desk_redo, desk, 3)
        desk.put("w", LOW)
        self.raised_number(NothingToUndo, 1, desk_redo, desk, 1)
        self.assertEqual((desk.redo(many=0), desk.deeds), (2, 2))

    def test_wrong_numbers(self):
        desk = example()
        desk.undo()
        for value in wrong_numbers() + [-1]:
            self.raised_number(InvalidNumber, value, desk_undo, desk, value)
            self.raised_number(InvalidNumber, value, desk_redo, desk, value)
        self.raised_number(NothingToUndo, 3, desk_undo, desk, 3)
        self.raised_number(NothingToUndo, 2, desk_redo, desk, 2)
        self.raised_number(NothingToUndo, 10 ** 60 - 1, desk_undo, desk, 10 ** 60 - 1)
        self.raised_number(NothingToUndo, 1, desk_undo, Desk(SLOPE), 1)
        self.raised_number(NothingToUndo, 1, desk_redo, Desk(SLOPE), 1)
        self.assertEqual(desk.deeds, 2)

    def test_during(self):
        desk = example()
        desk.undo()
        before = state(desk)

        def call(one):
            self.assertIs(one, desk)
            one.put("w", LOW)
            one.undo(many=2)
            one.follow("x", "dual", "u")
            self.assertEqual(one.during(lambda same: same.drop("x")), 3)
            return one.names

        self.assertEqual(desk.during(call), ("u", "x"))
        self.assertEqual(state(desk), before)
        self.assertEqual((desk.redo(), desk), (3, example()))
        self.assertIsNone(desk.during(lambda one: None))

    def test_during_with_errors(self):
        desk = example()
        before = state(desk)

        def call(one):
            one.free("p")
            one.drop("v")
            raise ZeroDivisionError("in the call")

        self.raised(ZeroDivisionError, desk.during, call)
        self.assertEqual(state(desk), before)
        self.raised_number(UnknownName, "w", desk.during, lambda one: (one.undo(), one.drop("w")))
        self.assertEqual((state(desk), desk.undo(many=3)), (before, 0))

    def test_twin(self):
        desk = example()
        desk.undo()
        twin = desk.twin()
        self.assertEqual((twin, state(twin)), (desk, state(desk)))
        self.assertEqual((twin.redo(), twin.labels, desk.labels, desk.deeds), (3, ("p",), (), 2))
        twin.undo(many=3)
        self.assertEqual((desk.names, twin.names), (("u", "v"), ()))
        desk.put("w", LOW)
        self.assertEqual((twin.redo(many=3), twin.names, desk.names), (3, ("u", "v"), ("u", "v", "w")))
        self.assertEqual(twin, example())


class LimitsTest(Case):
    def test_names(self):
        desk = Desk(SLOPE)
        for many, name in enumerate("abcdefghijkl", start=1):
            self.assertEqual(desk.put(name, HIGH), many)
        self.raised_number(TooMany, 12, desk.put, "m", HIGH)
        self.raised_number(TooMany, 12, desk.follow, "m", "dual", "a")
        self.raised_number(UnknownName, "m", desk.follow, "m", "dual", "m")
        self.assertEqual((desk.put("a", LOW), desk.follow("b", "dual", "a"), len(desk)), (13, 14, 12))
        self.assertEqual(desk.broken_by("m", HIGH), ())
        desk.drop("b")
        self.assertEqual((desk.put("m", HIGH), len(desk)), (16, 12))

    def test_promises(self):
        desk = Desk(SLOPE)
        desk.put("u", HIGH)
        for many, label in enumerate("abcdefghijkl", start=2):
            self.assertEqual(desk.promise(label, ("room", "u", 4)), many)
        self.raised_number(TooMany, 12, desk.promise, "m", ("room", "u", 4))
        self.raised_number(TooMany, 12, desk.promise, "m", ("room", "u", 0))
        self.raised_number(Refused, ("label", "a"), desk.promise, "a", ("room", "u", 4))
        desk.free("c")
        self.assertEqual((desk.promise("m", ("room", "u", 4)), len(desk.labels)), (15, 12))
        self.assertEqual(str(desk), "desk of 3:5 with 1 names, 12 promises")

    def test_letters(self):
        desk = Desk(SLOPE)
        for name in ("a", "z", "abcdefgh", "r"):
            desk.put(name, HIGH)
            desk.promise(name, ("same", name, name))
        self.assertEqual((desk.names, desk.labels), (("a", "abcdefgh", "r", "z"),) * 2)
        self.raised(InvalidOperation, desk.put, "abcdefghi", HIGH)
        self.raised(InvalidOperation, desk.promise, "abcdefghi", ("same", "a", "a"))
        self.raised(InvalidOperation, desk.promise, "b", ("same", "a", "abcdefghi"))


class WrongTest(Case):
    def test_names(self):
        desk = example()
        for value in no_names():
            self.raised(InvalidOperation, desk.put, value, None)
            self.raised(InvalidOperation, desk.follow, value, None, None)
            self.raised(InvalidOperation, desk.follow, value, "dual", "u")
            self.raised(InvalidOperation, desk.follow, value, "dual", "nobody")
            self.raised(InvalidOperation, desk.promise, value, None)
            self.raised(InvalidOperation, desk.promise, value, ("room", "u", 4))
            self.raised(InvalidOperation, desk.put, value, HIGH)
            self.raised(InvalidOperation, desk.broken_by, value, HIGH)
            self.raised(InvalidOperation, desk.broken_by, value, None)

    def test_unknown_names(self):
        desk = example()
        for value in no_names() + ["r", "s", "rs", "w", "p"]:
            self.raised_number(UnknownName, value, desk.follow, "x", "dual", value)
            for call in (desk.drop, desk.kept_way, desk.rule, desk.hanging):
                self.raised_number(UnknownName, value, call, value)
        for value in no_names() + ["r", "s", "rs", "w", "u", "v"]:
            self.raised_number(UnknownName, value, desk.free, value)
            self.raised_number(UnknownName, value, desk.promised, value)

    def test_ways(self):
        desk = example()
        other = [lowest(Slope(5, 3)), lowest(Slope(3, 4)), lowest(Slope(6, 10))]
        for value in wrong_for(Way) + other:
            self.raised(InvalidWay, desk.put, "u", value)
            self.raised(InvalidWay, desk.put, "w", value)
            self.raised(InvalidWay, desk.broken_by, "u", value)
            self.raised(InvalidWay, desk.broken_by, "w", value)

    def test_rules(self):
        desk = example()
        for value in wrong_values() + ["Dual", "sort", "dual ", ("dual",), ["dual"], ""]:
            self.raised(InvalidOperation, desk.follow, "w", value, "nobody")
            self.raised(InvalidOperation, desk.follow, "u", value, "u")

    def test_promises(self):
        desk = example()
        wrong = [(), ("same",), ("same", "u"), ("same", "u", "v", "w"), ["same", "u", "v"], ("Same", "u", "v"),
                 ("same", "u", 1), ("same", 1, "u"), ("same", "U", "v"), ("same", "u", ""), ("within", "u", None),
                 ("within", "u", "abcdefghi"), ("room", "u", "v"), ("room", "u", True), ("room", "u", 10 ** 60),
                 ("room", "u", None), ("room", "U", 1), ("pairs", 1, 1), ("pairs", "u", False), ("pairs", "u", (1,)),
                 ("half", "u", 1), (None, "u", "v"), (("same",), "u", "v"), ("room", ["u"], 1), "room u 1"]
        for value in wrong + wrong_values():
            self.raised(InvalidOperation, desk.promise, "q", value)
            self.raised(InvalidOperation, desk.promise, "p", value)
        self.raised(InvalidOperation, desk.promise, "P", ("half", "u", 1))


def desk_undo(desk, many):
    """Take deeds back."""
    return desk.undo(many=many)


def desk_redo(desk, many):
    """Do deeds again."""
    return desk.redo(many=many)


if __name__ == "__main__":
    unittest.main()
