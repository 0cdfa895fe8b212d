"""Promises [3.1] to [3.7] and [3.10], and the class Shelf."""
import unittest
from itertools import combinations

from slantways.errors import InvalidNumber, InvalidShelf, InvalidSlope, InvalidWay, Refused
from slantways.shelf.shelves import Shelf, is_gaps, moves
from slantways.way.ways import Slope, Way, highest, lowest, ways
from tests.helper import Case, coprime_sides, gap_sets, is_closed, wrong_for, wrong_numbers, wrong_values

ODD = Slope(3, 5)
LONG = 10 ** 60
SIDES = coprime_sides(12)
FAR = [(59, 60), (60, 59), (60, 7), (1, 60), (60, 1)]


def all_shelves():
    """Triples of the rises, the steps, and a shelf, for all shelves of small slopes."""
    found = []
    for rises, steps in SIDES:
        found.extend((rises, steps, Shelf(Slope(rises, steps), gaps)) for gaps in gap_sets(rises, steps))
    return found


def members_of(shelf):
    """The members of a shelf up to far beyond its makers."""
    most = shelf.slope.rises * shelf.slope.steps * 2 + 2
    return [number for number in range(most) if number not in shelf.gaps]


class ExamplesTest(Case):
    def test_one(self):
        one = Shelf(ODD, (1, 2, 4))
        shown = [one.rise_makers, one.step_makers, one.makers, one.way().text, one.dual().gaps,
                 one.exchanged().way().text, str(one), str(Shelf(ODD))]
        self.assertEqual(shown, [(0, 5, 7), (0, 3, 6, 7, 9), (0, 7), "rrsrssss", (1, 4), "rrrrsrss",
                                 "shelf of 3:5 without 1 2 4", "shelf of 3:5"])

    def test_members(self):
        one, other = Shelf(ODD, (1, 2, 4)), Shelf(ODD, (1, 4))
        shown = [4 in one, 10 ** 9 in one, True in one, -3 in one, one.addable(), one.removable(),
                 one.added(4).gaps, one.removed(7).gaps, one.holds(other), other.holds(one)]
        self.assertEqual(shown, [False, True, False, False, (2, 4), (7,), (1, 2), (1, 2, 4, 7), False, True])

    def test_union_and_makers(self):
        other = Shelf(ODD, (1, 4))
        shown = [(other | Shelf(ODD, (1, 2))).gaps, (other & Shelf(ODD, (1, 2))).gaps,
                 Shelf.of_makers(ODD, (0, 4)).gaps, is_gaps(ODD, (1, 2, 4)), is_gaps(ODD, (4,))]
        self.assertEqual(shown, [(1,), (1, 2, 4), (1, 2), True, False])

    def test_errors(self):
        self.raised_number(Refused, ("gap", 4), Shelf(ODD, (1, 2, 4)).added, 1)
        self.raised_number(Refused, ("common", 2), Shelf, Slope(4, 6))


class GapsTest(Case):
    def test_all_sets(self):
        for rises, steps in coprime_sides(9):
            slope = Slope(rises, steps)
            numbers = range(1, (rises - 1) * (steps - 1) + 3)
            sums = {i * rises + j * steps for i in range(20) for j in range(20)}
            for many in range(len(numbers) + 1):
                for gaps in combinations(numbers, many):
                    closed = is_closed(gaps, rises, steps)
                    self.assertIs(is_gaps(slope, gaps), closed)
                    below = [gap - side for gap in gaps for side in (rises, steps) if gap - side > 0]
                    self.assertEqual(closed, sums.isdisjoint(gaps) and set(below) <= set(gaps))
                    if closed:
                        self.assertEqual(Shelf(slope, gaps).gaps, gaps)
                        self.assertLess(max(gaps, default=-1), (rises - 1) * (steps - 1))
                    else:
                        self.raised(InvalidShelf, Shelf, slope, gaps)

    def test_sides_of_one(self):
        for rises, steps in ((1, 1), (1, 60), (60, 1), (1, 2)):
            slope = Slope(rises, steps)
            shelf = Shelf(slope)
            self.assertEqual((shelf.gaps, shelf.makers, shelf.addable(), shelf.removable()), ((), (0,), (), ()))
            self.assertEqual(shelf.rise_makers, tuple(range(rises)))
            self.assertEqual(shelf.step_makers, tuple(range(steps)))
            self.assertEqual(shelf.dual(), shelf)
            self.assertIs(is_gaps(slope, (1,)), False)
            self.raised(InvalidShelf, Shelf, slope, (1,))
            self.raised_number(Refused, ("member", 0), shelf.removed, 1)
            self.raised_number(InvalidNumber, 1, shelf.added, 1)

    def test_makers(self):
        for rises, steps, shelf in all_shelves():
            members = members_of(shelf)
            for side, makers in ((rises, shelf.rise_makers), (steps, shelf.step_makers)):
                least = [min(member for member in members if member % side == rest) for rest in range(side)]
                self.same(makers, tuple(sorted(least)))
            makers = [one for one in members if one - rises not in members and one - steps not in members]
            self.same(shelf.makers, tuple(makers))
            self.assertEqual(set(makers), set(shelf.rise_makers) & set(shelf.step_makers))
            self.assertEqual(Shelf.of_makers(shelf.slope, shelf.makers), shelf)

    def test_of_makers(self):
        for rises, steps in coprime_sides(8):
            slope = Slope(rises, steps)
            for numbers in combinations(range(1, rises * steps), 2):
                made = {number + i * rises + j * steps for number in (0,) + numbers
                        for i in range(steps + 1) for j in range(rises + 1)}
                gaps = [number for number in range(1, (rises - 1) * (steps - 1)) if number not in made]
                self.same(Shelf.of_makers(slope, (0,) + numbers).gaps, tuple(gaps))

    def test_of_many_makers(self):
        slope = Slope(59, 60)
        hundred = (0,) + tuple(range(901, 1000))
        made = Shelf.of_makers(slope, hundred)
        self.assertTrue(all(number in made for number in hundred))
        self.assertEqual(Shelf.of_makers(slope, made.makers), made)
        self.assertEqual(Shelf.of_makers(slope, (0, 10 ** 6)), Shelf.of_way(highest(slope)))
        self.assertEqual(Shelf.of_makers(slope, tuple(range(60))), Shelf(slope))
        for wrong in (hundred + (1000,), (0, 10 ** 6 + 1), (0, -1), (1, 2), (), (0, 0), (0, 5, 4), (0, True), (False,),
                      [0, 4], (0, "4"), (0, LONG), ((0,),), 0, (-1, 0)):
            self.raised(InvalidShelf, Shelf.of_makers, slope, wrong)


class WaysOfShelvesTest(Case):
    def test_all_ways(self):
        for rises, steps in SIDES:
            slope = Slope(rises, steps)
            found = []
            for way in ways(slope):
                shelf = Shelf.of_way(way)
                found.append(shelf.gaps)
                self.check_levels(way, shelf)
                self.assertEqual(shelf.way(), way)
                self.assertEqual(Shelf.of_way(shelf.way()), shelf)
            self.assertEqual(sorted(found), sorted(gap_sets(rises, steps)))
            most = (rises - 1) * (steps - 1) // 2
            self.assertEqual([gaps for gaps in found if len(gaps) == most], [found[0]])
            self.assertLessEqual(max(len(gaps) for gaps in found), most)
            self.assertEqual(Shelf.of_way(highest(slope)).gaps, found[0])
            self.assertEqual(Shelf.of_way(lowest(slope)).gaps, ())

    def check_levels(self, way, shelf):
        rises, steps = way.slope.rises, way.slope.steps
        places = range(len(way))
        ahead = [way.levels[place] for place in places if way.text[place] == "r"]
        behind = [way.levels[place] - rises for place in places if way.text[place] == "s"]
        starts = [place for place in places if way.text[place] == "r" and (place == 0 or way.text[place - 1] == "s")]
        self.assertEqual(shelf.slope, way.slope)
        self.same(shelf.rise_makers, tuple(sorted(ahead)))
        self.same(shelf.step_makers, tuple(sorted(behind)))
        self.assertEqual(shelf.makers, tuple(sorted(way.levels[place] for place in starts)))
        self.assertEqual(len(shelf.gaps), sum(maker // rises for maker in shelf.rise_makers))
        self.assertEqual(len(shelf.gaps), sum(maker // steps for maker in shelf.step_makers))

    def test_far_ways(self):
        for rises, steps in FAR:
            slope = Slope(rises, steps)
            for way in (highest(slope), lowest(slope)):
                shelf = Shelf.of_way(way)
                self.check_levels(way, shelf)
                self.assertEqual(shelf.way(), way)
                self.assertEqual(shelf.dual().dual(), shelf)
                self.assertEqual(Shelf.of_makers(slope, shelf.makers), shelf)
            self.assertEqual(len(Shelf.of_way(highest(slope)).gaps), (rises - 1) * (steps - 1) // 2)
            self.assertEqual(Shelf.of_way(lowest(slope)), Shelf(slope))

    def test_exchanged(self):
        for rises, steps, shelf in all_shelves():
            back = shelf.exchanged()
            self.assertEqual((back.slope, back.gaps), (Slope(steps, rises), shelf.gaps))
            self.assertEqual(back.way(), shelf.way().exchanged())
            self.assertEqual((back.rise_makers, back.step_makers), (shelf.step_makers, shelf.rise_makers))
            self.assertEqual(back.makers, shelf.makers)

    def test_dual(self):
        for rises, steps, shelf in all_shelves():
            last = max(shelf.gaps, default=-1)
            gaps = sorted(last - member for member in members_of(shelf) if member < last)
            dual = shelf.dual()
            self.same(dual.gaps, tuple(gaps))
            self.assertEqual(dual.slope, shelf.slope)
            self.assertEqual(max(dual.gaps, default=-1), last)
            self.assertEqual(dual.dual(), shelf)


class MembersTest(Case):
    def test_in(self):
        for rises, steps, shelf in all_shelves():
            members = members_of(shelf)
            for number in range(-3, rises * steps):
                self.assertIs(number in shelf, number in members)
        whole = Shelf(Slope(2, 3))
        for value in wrong_values():
            self.assertIs(value in whole, value.__class__ is int and value >= 0)
        self.assertTrue(LONG in whole and 10 ** 99 in whole and 0 in whole)
        self.assertFalse(-LONG in whole or "0" in whole or False in whole or (0,) in whole or [0] in whole)

    def test_moves_of_one(self):
        for rises, steps, shelf in all_shelves():
            gaps = set(shelf.gaps)
            add = [gap for gap in shelf.gaps if is_closed(gaps - {gap}, rises, steps)]
            far = range(1, rises * steps + 2)
            take = [one for one in far if one not in gaps and is_closed(gaps | {one}, rises, steps)]
            self.same(shelf.addable(), tuple(add))
            self.same(shelf.removable(), tuple(take))
            self.assertEqual(take, [maker for maker in shelf.makers if maker != 0])
            for number in range(-2, rises * steps + 2):
                self.check_added(shelf, number, number in add)
                self.check_removed(shelf, number, number in take)

    def check_added(self, shelf, number, allowed):
        rises, steps = shelf.slope.rises, shelf.slope.steps
        if allowed:
            more = shelf.added(number)
            self.assertEqual(more, Shelf(shelf.slope, tuple(gap for gap in shelf.gaps if gap != number)))
            way = shelf.way()
            place = way.levels.index(number + rises)
            self.assertEqual(way.text[place:place + 2], "rs")
            self.assertEqual(more.way().text, way.text[:place] + "sr" + way.text[place + 2:])
        elif number not in shelf.gaps:
            self.raised_number(InvalidNumber, number, shelf.added, number)
        else:
            least = min(number + side for side in (rises, steps) if number + side in shelf.gaps)
            self.raised_number(Refused, ("gap", least), shelf.added, number)

    def check_removed(self, shelf, number, allowed):
        if allowed:
            less = Shelf(shelf.slope, tuple(sorted(shelf.gaps + (number,))))
            self.assertEqual(shelf.removed(number), less)
            self.assertEqual(less.added(number), shelf)
        elif number <= 0 or number in shelf.gaps:
            self.raised_number(InvalidNumber, number, shelf.removed, number)
        else:
            below = [number - side for side in (shelf.slope.rises, shelf.slope.steps)]
            least = min(one for one in below if one >= 0 and one not in shelf.gaps)
            self.raised_number(Refused, ("member", least), shelf.removed, number)

    def test_long_numbers(self):
        shelf = Shelf(ODD, (1, 2))
        self.raised_number(Refused, ("member", LONG - 1 - 5), shelf.removed, LONG - 1)
        for number in (LONG, 10 ** 99, -LONG):
            self.raised_number(InvalidNumber, number, shelf.removed, number)
            self.raised_number(InvalidNumber, number, shelf.added, number)

    def test_wrong_numbers(self):
        shelf = Shelf(ODD, (1, 2))
        for value in wrong_numbers() + [0, -1]:
            self.assertIs(self.raised(InvalidNumber, shelf.added, value).value, value)
            self.assertIs(self.raised(InvalidNumber, shelf.removed, value).value, value)
        self.assertIs(self.raised(InvalidNumber, Shelf(ODD).removed, True).value, True)


class TwoShelvesTest(Case):
    def test_union_and_meet(self):
        for rises, steps in coprime_sides(10):
            slope = Slope(rises, steps)
            listed = [Shelf(slope, gaps) for gaps in gap_sets(rises, steps)]
            for one in listed:
                for other in listed:
                    self.check_two(one, other)

    def check_two(self, one, other):
        union, meet = one | other, one & other
        self.same(union.gaps, tuple(sorted(set(one.gaps) & set(other.gaps))))
        self.same(meet.gaps, tuple(sorted(set(one.gaps) | set(other.gaps))))
        for rest in range(one.slope.rises):
            both = [maker for maker in one.rise_makers + other.rise_makers if maker % one.slope.rises == rest]
            self.assertIn(min(both), union.rise_makers)
            self.assertIn(max(both), meet.rise_makers)
        holds = set(one.gaps) <= set(other.gaps)
        self.assertIs(one.holds(other), holds)
        self.assertIs(union == one, holds)
        self.assertIs(meet == other, holds)
        self.assertIs(one == other, one.gaps == other.gaps)
        self.assertIs(one != other, one.gaps != other.gaps)

    def test_other_slopes(self):
        one = Shelf(ODD, (1, 2))
        for slope in (Slope(5, 3), Slope(3, 4), Slope(1, 1), Slope(3, 7)):
            self.raised(InvalidShelf, lambda other: one | other, Shelf(slope))
            self.raised(InvalidShelf, lambda other: one & other, Shelf(slope))
            self.raised(InvalidShelf, one.holds, Shelf(slope))
            self.assertFalse(Shelf(ODD) == Shelf(slope))
        self.assertTrue(one == Shelf(Slope(3, 5), (1, 2)))
        self.assertEqual(one | Shelf(Slope(3, 5), (1,)), Shelf(ODD, (1,)))

    def test_other_kinds(self):
        one = Shelf(ODD, (1, 2))
        for value in wrong_for(Shelf):
            self.raised(TypeError, lambda other: one | other, value)
            self.raised(TypeError, lambda other: other | one, value)
            self.raised(TypeError, lambda other: one & other, value)
            self.raised(TypeError, lambda other: other & one, value)
            self.raised(TypeError, lambda other: one < other, value)
            self.raised(InvalidShelf, one.holds, value)
            self.assertIs(one == value, False)
            self.assertIs(value != one, True)
        for call in (iter, len, list, hash):
            self.raised(TypeError, call, one)
        self.raised(TypeError, lambda other: one < other, Shelf(ODD))

    def test_never_changes(self):
        one = Shelf(ODD, (1, 2, 4))
        for name in ("slope", "gaps", "rise_makers", "step_makers", "makers"):
            self.raised(AttributeError, setattr, one, name, ())
        one.added(4), one.removed(7), one.dual(), one | Shelf(ODD), one & Shelf(ODD, (1, 4)), moves(one, Shelf(ODD))
        self.assertEqual(one, Shelf(ODD, (1, 2, 4)))


class FalseStatementsTest(Case):
    def test_more_than_two_makers(self):
        shelf = Shelf(Slope(3, 4))
        self.assertEqual(shelf.makers, (0, 1, 2))
        for numbers in combinations(range(12), 2):
            if numbers[0] == 0:
                self.assertNotEqual(Shelf.of_makers(Slope(3, 4), numbers), shelf)

    def test_dual_with_fewer_gaps(self):
        self.assertEqual([Shelf(ODD, (1, 2, 4)).dual().gaps, Shelf(ODD, (1, 4)).dual().gaps], [(1, 4), (1, 2, 4)])

    def test_dual_does_not_turn_holding(self):
        one, other = Shelf(ODD), Shelf(ODD, (1,))
        self.assertTrue(one.holds(other))
        self.assertFalse(other.dual().holds(one.dual()))


class WrongArgumentsTest(Case):
    def test_wrong_slope_comes_first(self):
        for value in wrong_for(Slope):
            for rest in ((), (1,), None, True):
                self.raised(InvalidSlope, Shelf, value, rest)
                self.raised(InvalidSlope, is_gaps, value, rest)
                self.raised(InvalidSlope, Shelf.of_makers, value, rest)
            self.raised(InvalidSlope, Shelf, value)

    def test_common_part(self):
        for rises, steps, common in ((4, 6, 2), (2, 2, 2), (60, 60, 60), (45, 60, 15)):
            slope = Slope(rises, steps)
            for value in wrong_values():
                self.raised_number(Refused, ("common", common), Shelf, slope, value)
                self.raised_number(Refused, ("common", common), is_gaps, slope, value)
            self.raised_number(Refused, ("common", common), Shelf.of_makers, slope, (0, 1))
            self.raised(InvalidShelf, Shelf.of_makers, slope, (1,))
            self.raised_number(Refused, ("common", common), Shelf.of_way, highest(slope))

    def test_wrong_gaps(self):
        wrong = [(2, 1), (1, 1), (1, 2, 2), [1, 2], [], {1: 2}, "12", (True,), (True, 2), (1, "2"), (1, (2,)), (0, 1),
                 (-1,), (1, None), (LONG,), (1, LONG), (4,), (3,), (1, 2, 4, 7, 8), 1, ((1,),), (1, Shelf(ODD))]
        for value in wrong + wrong_values():
            if value not in ((), (1,)) or value.__class__ is not tuple:
                self.raised(InvalidShelf, Shelf, ODD, value)
                self.assertIs(is_gaps(ODD, value), False)

    def test_wrong_makers(self):
        for value in wrong_values():
            self.raised(InvalidShelf, Shelf.of_makers, ODD, value)

    def test_wrong_way(self):
        for value in wrong_for(Way) + ["rrrsssss"]:
            self.raised(InvalidWay, Shelf.of_way, value)

    def test_text(self):
        for _, _, shelf in all_shelves():
            without = " without " + " ".join(str(gap) for gap in shelf.gaps)
            self.same(str(shelf), f"shelf of {shelf.slope}" + (without if shelf.gaps else ""))


if __name__ == "__main__":
    unittest.main()
