import unittest
from fractions import Fraction

from gridwise import cells_of, fraction, rectangle_holds, rectangles_in, region_holds, some_rectangle
from naive import Asserts, Dice, deep_list
from pagefall.refusals import BadRectangle, BadRegion
from pagefall.regions import common_region, is_region, joined_regions, left_region, region_area, region_around, region_of
from test_forms import NO_FRACTIONS
from test_layouts import NO_WIDTHS

ZERO = (0, 1)
RUN = ((0, 1), (2, 1))
NO_RUNS = [None, 5, (), RUN, (RUN, RUN), (((2, 1), (2, 1)),), (((2, 1), (1, 1)),), (RUN, ((2, 1), (3, 1))), (RUN, ((1, 1), (3, 1))), ((ZERO,),),
           ((ZERO, (1, 1), (2, 1)),), (5,), (None,), ("ab",), (RUN, {0: 1, 1: 2}), {0: 1}, deep_list(2000)]
NO_SLABS = [None, 5, "abc", (), (0, 1), (0, 1, (RUN,), 1), (1, 1, (RUN,)), (2, 1, (RUN,)), (True, 2, (RUN,)), (0, True, (RUN,)), ((0, 1), 2, (RUN,)),
            deep_list(2000)] + [(0, 1, runs) for runs in NO_RUNS] + [(0, 1, ((ZERO, bad),)) for bad in NO_FRACTIONS]


class RegionsTest(unittest.TestCase, Asserts):
    def test_what_regions_are(self):
        for thing in ([], (), [(0, 1, (RUN,))], [[-5, 2, [[[0, 3], [4, 2]]]], (2, 3, (((0, 1), (1, 1)), ((2, 1), (3, 1))))],
                      [(0, 1, (RUN,)), (2, 3, (RUN,))], [(0, 1, (RUN,)), (1, 3, (((0, 1), (5, 2)),))]):
            self.assertIs(is_region(thing), True)
        wrong = [None, 5, "ab", {}, {0: 1}, [(0, 1, (RUN,)), (1, 2, (RUN,))], [(0, 1, (RUN,)), (1, 2, (((0, 3), (4, 2)),))], (0, 1, (RUN,)),
                 [(0, 2, (RUN,)), (1, 3, (((0, 1), (1, 1)),))], [(3, 4, (RUN,)), (0, 1, (RUN,))], deep_list(2000)] + [[bad] for bad in NO_SLABS]
        for thing in wrong:
            self.assertIs(is_region(thing), False, thing)
            for work in (region_area, region_around):
                self.assert_keeps(BadRegion, thing, work, thing)
            for work in (joined_regions, common_region, left_region):
                self.assert_keeps(BadRegion, thing, work, thing, None)
                self.assert_keeps(BadRegion, thing, work, [], thing)

    def test_wrong_rectangles(self):
        good = (ZERO, 0, (1, 1), 1)
        for thing in (None, 5, "ab", {}, {0: good}):
            self.assert_raises(BadRectangle, 0, region_of, thing)
        wrong = [None, 5, "abcd", (), good[:3], good + (1,), deep_list(2000), (ZERO, (0, 1), (1, 1), 1), (ZERO, True, (1, 1), 1), (ZERO, 0, (1, 1), -1), (ZERO, 0, (1, 1), None)]
        wrong += [(bad, 0, (1, 1), 1) for bad in NO_FRACTIONS] + [(ZERO, 0, bad, 1) for bad in NO_WIDTHS]
        for bad in wrong:
            self.assert_raises(BadRectangle, 1, region_of, [good, bad, bad])

    def test_one_region(self):
        self.assertEqual(region_of([]), [])
        self.assertEqual(region_of([(ZERO, 3, (0, 7), 5), ((4, 1), 1, (3, 1), 0)]), [])
        self.assertEqual(region_of([[[2, 4], -1, [4, 2], 3]]), [(-1, 2, (((1, 2), (5, 2)),))])
        # Neighbours that touch are one; slabs that touch and have the same runs, too.
        self.assertEqual(region_of([(ZERO, 0, (1, 1), 2), ((1, 1), 0, (1, 1), 1), ((1, 1), 1, (1, 1), 1)]), [(0, 2, (RUN,))])
        corner = [(0, 1, (RUN,)), (1, 2, (((0, 1), (1, 1)),))]
        self.assertEqual(region_of([(ZERO, 0, (2, 1), 1), (ZERO, 0, (1, 1), 2)]), corner)
        self.assertEqual(region_area(corner), (3, 1))
        self.assertEqual(region_around(corner), (ZERO, 0, (2, 1), 2))
        self.assertEqual((region_area([]), region_around([])), (ZERO, None))
        self.assertEqual(region_around([(5, 6, (((3, 1), (4, 1)),)), (8, 9, (((-2, 4), (1, 2)), ((1, 1), (2, 1))))]), ((-1, 2), 5, (9, 2), 4))
        self.assertEqual(region_area([[0, 2, [[[0, 3], [2, 6]]]]]), (2, 3))

    def test_two_regions(self):
        square, bar = region_of([(ZERO, 0, (2, 1), 2)]), region_of([((1, 1), -1, (2, 1), 2)])
        self.assertEqual(common_region(square, bar), [(0, 1, (((1, 1), (2, 1)),))])
        self.assertEqual(left_region(square, bar), [(0, 1, (((0, 1), (1, 1)),)), (1, 2, (RUN,))])
        self.assertEqual(joined_regions(square, bar), [(-1, 0, (((1, 1), (3, 1)),)), (0, 1, (((0, 1), (3, 1)),)), (1, 2, (RUN,))])

    def test_all_cells(self):
        dice = Dice(111)
        for _ in range(120):
            rows = [[some_rectangle(dice) for _ in range(dice.throw(5))] for _ in range(2)]
            one, other = region_of(rows[0]), region_of(rows[1])
            told = [one, other, joined_regions(one, other), common_region(one, other), left_region(one, other)]
            areas = [Fraction(0)] * 5
            for x, y, area in cells_of(rows[0] + rows[1]):
                held = [any(rectangle_holds(rectangle, x, y) for rectangle in row) for row in rows]
                wanted = held + [held[0] or held[1], held[0] and held[1], held[0] and not held[1]]
                for at, region in enumerate(told):
                    self.assertEqual(region_holds(region, x, y), wanted[at])
                    areas[at] += area if wanted[at] else 0
            for region, area in zip(told, areas):
                self.assertTrue(is_region(region) and isinstance(region, list))
                self.assertEqual(region_area(region), fraction(area))
                self.assertEqual(region_of(rectangles_in(region)[::-1]), region)
                self.check_around(region)
            self.assertEqual(joined_regions(told[3], told[4]), one)
            self.assertEqual(common_region(told[3], told[4]), [])

    def check_around(self, region):
        around = region_around(region)
        if region == []:
            self.assertIsNone(around)
            return
        self.assertEqual(left_region(region, region_of([around])), [])
        left, top, width, height = around
        for less in ((left, top + 1, width, height - 1), (left, top, width, height - 1), (left, top, fraction(Fraction(*width) - Fraction(1, 99)), height),
                     (fraction(Fraction(*left) + Fraction(1, 99)), top, width, height)):
            if Fraction(*less[2]) >= 0:
                self.assertNotEqual(left_region(region, region_of([less])), [])

    def test_what_is_passed_stays(self):
        one = [[0, 2, [[[0, 1], [4, 2]]]]]
        joined_regions(one, one)
        self.assertEqual(one, [[0, 2, [[[0, 1], [4, 2]]]]])


if __name__ == "__main__":
    unittest.main()
