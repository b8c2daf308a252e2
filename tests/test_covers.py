import unittest
from fractions import Fraction
from itertools import combinations

from gridwise import cells_of, fraction, plain_sign, region_holds, shape_holds, some_picture
from naive import Asserts, Dice, deep_list
from pagefall.covers import first_seen, is_cover, least_cover, least_shapes, seen_region, sign_areas, unlike_region
from pagefall.errors import BadNumber
from pagefall.pictures import Picture, sign_at
from pagefall.regions import common_region, is_region, joined_regions, region_area

EXAMPLE = [("p", (0, 1), 0, (4, 1), 4, "a"), ("q", (0, 1), 0, (2, 1), 4, "b"), ("r", (2, 1), 0, (2, 1), 2, "c")]
MORE = EXAMPLE + [("s", (1, 1), 1, (3, 1), 3, "d")]


def all_cells(*pictures):
    return cells_of([shape[1:5] for picture in pictures for shape in picture.all_shapes()])


class CoversTest(unittest.TestCase, Asserts):
    def test_the_example(self):
        picture = Picture(EXAMPLE)
        self.assertEqual(seen_region(picture, 0), [(2, 4, (((2, 1), (4, 1)),))])
        self.assertEqual(first_seen(picture, 0), ((2, 1), 2))
        self.assertEqual(sign_areas(picture), {"a": (4, 1), "b": (8, 1), "c": (4, 1)})
        picture = Picture(MORE)
        self.assertIsNone(first_seen(picture, 0))
        self.assertEqual(least_cover(picture, 0), [1, 2, 3])
        self.assertEqual(least_shapes(picture), [1, 2, 3])
        self.assertEqual(seen_region(picture, 2), [(0, 1, (((2, 1), (4, 1)),))])

    def test_wrong_numbers(self):
        picture = Picture(EXAMPLE)
        for number in (3, -1, None, True, "0", (0, 1), [], deep_list(2000)):
            self.assert_keeps(BadNumber, number, seen_region, picture, number)
            self.assert_keeps(BadNumber, number, first_seen, picture, number)
            self.assert_keeps(BadNumber, number, least_cover, picture, number)
            self.assert_keeps(BadNumber, number, is_cover, picture, number, None)

    def test_covers_that_are_none(self):
        picture = Picture(MORE + [("n", (0, 1), 0, (9, 1), 9, None)])
        for thing in ([1, 2, 3], (3, 1, 2)):
            self.assertIs(is_cover(picture, 0, thing), True)
        for thing in (None, 5, "ab", [], [1, 2], [1, 2, 3, 3], [0, 1, 2, 3], [1, 2, 3, 4], [1, 2, 3, True], [True, 2, 3], [1, 2, 3, 9], [1, 2, 3, -1], {1: 1},
                      [None], deep_list(2000)):
            self.assertIs(is_cover(picture, 0, thing), False)
        # Who holds nothing is covered by none.
        thin = Picture([("m", (0, 1), 0, (0, 1), 5, "a"), ("m", (0, 1), 0, (1, 1), 1, "b")])
        self.assertEqual((least_cover(thin, 0), first_seen(thin, 0), is_cover(thin, 0, []), is_cover(thin, 0, [1])), ([], None, True, True))
        self.assertEqual(least_shapes(thin), [1])

    def test_of_as_few_the_first(self):
        whole = ("m", (0, 1), 0, (4, 1), 2, "a")
        halves = [("m", (0, 1), 0, (2, 1), 2, "b"), ("m", (2, 1), 0, (2, 1), 2, "b"), ("m", (0, 1), 0, (3, 1), 2, "b"), ("m", (1, 1), 0, (3, 1), 2, "b")]
        self.assertEqual(least_cover(Picture([whole] + halves), 0), [1, 2])
        self.assertEqual(least_cover(Picture([whole] + halves[::-1]), 0), [1, 2])
        self.assertEqual(least_cover(Picture([whole, halves[0], halves[2], halves[3]]), 0), [1, 3])
        self.assertEqual(least_cover(Picture([whole] + halves + [whole]), 0), [5])
        self.assertIsNone(least_cover(Picture([whole, halves[0], halves[2]]), 0))

    def test_by_all_cells_and_all_lots(self):
        dice = Dice(121)
        covered = 0
        for _ in range(150):
            picture = some_picture(dice, 1 + dice.throw(7))
            shapes = picture.all_shapes()
            cells = all_cells(picture)
            for number, shape in enumerate(shapes):
                later = [at for at in range(number + 1, len(shapes)) if shapes[at][5] is not None]
                mine = [cell for cell in cells if shape_holds(shape, *cell[:2])]
                region = seen_region(picture, number)
                self.assertTrue(is_region(region))
                for x, y, _ in cells:
                    is_seen = shape_holds(shape, x, y) and not any(shape_holds(shapes[at], x, y) for at in later)
                    self.assertEqual(region_holds(region, x, y), is_seen)
                lots = [list(lot) for many in range(len(later) + 1) for lot in combinations(later, many)
                        if all(any(shape_holds(shapes[at], *cell[:2]) for at in lot) for cell in mine)]
                self.assertEqual(least_cover(picture, number), lots[0] if lots else None)
                first = first_seen(picture, number)
                self.assertEqual(first, (region[0][2][0][0], region[0][0]) if region else None)
                self.assertEqual(first is None, bool(lots))
                if lots:
                    covered += 1
                    self.assertTrue(is_cover(picture, number, lots[-1][::-1]))
        self.assertGreater(covered, 100)

    def test_areas_and_unlike_regions(self):
        dice = Dice(122)
        for _ in range(80):
            one, other = some_picture(dice, dice.throw(6)), some_picture(dice, dice.throw(6))
            if dice.throw(3) == 0:
                other = Picture(one.all_shapes()[1:])
            areas = {}
            unlike = unlike_region(one, other)
            self.assertTrue(is_region(unlike))
            for x, y, area in all_cells(one, other):
                signs = [plain_sign(picture, x, y) for picture in (one, other)]
                self.assertEqual(region_holds(unlike, x, y), signs[0] != signs[1])
                if signs[0] is not None:
                    areas[signs[0]] = areas.get(signs[0], Fraction(0)) + area
            told = sign_areas(one)
            self.assertEqual(told, {sign: fraction(area) for sign, area in areas.items()})
            self.assertEqual(list(told), sorted(told))
            self.assertEqual(unlike_region(other, one), unlike)
            self.assertEqual(unlike_region(one, one), [])

    def test_least_shapes(self):
        dice = Dice(123)
        for _ in range(80):
            picture = some_picture(dice, dice.throw(8))
            shapes = picture.all_shapes()
            kept = []
            for number in range(len(shapes) - 1, -1, -1):
                others = Picture([shapes[number]] + [shapes[at] for at in kept])
                if shapes[number][5] is not None and first_seen(others, 0) is not None:
                    kept.insert(0, number)
            self.assertEqual(least_shapes(picture), kept)
            self.assertEqual(unlike_region(picture, Picture([shapes[at] for at in kept])), [])
            painting = [seen_region(picture, at) for at in range(len(shapes)) if shapes[at][5] is not None]
            for one, other in combinations(painting, 2):
                self.assertEqual(common_region(one, other), [])
            joined = []
            for region in painting:
                joined = joined_regions(joined, region)
            self.assertEqual(Fraction(*region_area(joined)), sum(Fraction(*area) for area in sign_areas(picture).values()))

    def test_pictures_at_the_limits(self):
        large = 10 ** 9 - 1
        shapes = [((at,), (large - at, 1 + at * 997), at - large, (large, 1 + at), large - at, "abc"[at % 3]) for at in range(80)]
        picture = Picture(shapes)
        self.assertEqual(len(sign_areas(picture)), 3)
        self.assertEqual(unlike_region(picture, Picture(shapes[1:])), unlike_region(Picture(shapes[1:]), picture))
        for number in (0, 40, 79):
            self.assertTrue(is_region(seen_region(picture, number)))
        self.assertEqual(sign_at(picture, (0, 1), (0, 1)), None)
        # Sixteen that paint behind one: half of them are needed, each other one holds a part of its neighbour's.
        tiles = [("m", (0, 1), 0, (16, 1), 2, "a")] + [("m", (at, 1), 0, (1, 1), 2, "b") for at in range(16)]
        self.assertEqual(least_cover(Picture(tiles), 0), list(range(1, 17)))
        pairs = [("m", (0, 1), 0, (16, 1), 2, "a")] + [("m", (at, 1), 0, (2, 1), 2, "b") for at in range(16)]
        self.assertEqual(least_cover(Picture(pairs), 0), [1, 3, 5, 7, 9, 11, 13, 15])
        self.assertIsNone(least_cover(Picture(pairs[:-2]), 0))


if __name__ == "__main__":
    unittest.main()
