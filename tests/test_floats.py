import unittest
from fractions import Fraction

from naive import Asserts, Dice, deep_list
from pagefall.errors import BadNumber
from pagefall.floats import all_shapes, laid_height, laid_out, lowest_rooms, run_need, run_wish, why_there
from pagefall.lines import line_sizes, lines_in
from pagefall.refusals import BadAlign, BadRoom, BadRun
from pagefall.words import words_of
from runwise import PlainLaying, plain_words, some_run, some_texts
from test_words import NO_ROOMS, NO_THINGS

EXAMPLE = [(10, "aa bb"), ("left", 30, 20), (10, " cc dd")]
TURNED = {"left": "right", "right": "left", "mid": "mid"}
ALIGNS = ("left", "mid", "right")
ZERO = (0, 1)


def told(room):
    room = Fraction(room)
    return (room.numerator, room.denominator)


def turned(run):
    return [(TURNED[thing[0]], thing[1], thing[2]) if len(thing) == 3 else thing for thing in run]


class FloatsTest(unittest.TestCase, Asserts):
    def test_the_example(self):
        self.assertEqual(laid_out(EXAMPLE, 80, "left"), ([(0, 2, (30, 1), 0, 50, 20), (2, 4, ZERO, 20, 50, 20)], [(ZERO, 0)]))
        self.assertEqual(laid_out(EXAMPLE, 79, "left"), ([(0, 2, ZERO, 0, 50, 20), (2, 3, (30, 1), 20, 20, 20), (3, 4, ZERO, 40, 20, 20)], [(ZERO, 20)]))
        self.assertEqual(why_there(EXAMPLE, 79, 0), (("line",), []))
        self.assertEqual(why_there(EXAMPLE, 80, 0), (None, []))
        self.assertEqual((run_need(EXAMPLE), run_wish(EXAMPLE)), (30, 140))
        self.assertEqual((laid_height(EXAMPLE, 80), laid_height(EXAMPLE, 79)), (40, 60))

    def test_empty_runs(self):
        for run in ([], [(5, "  ")]):
            self.assertEqual((laid_out(run, 0, "mid"), laid_height(run, 0), run_need(run), run_wish(run)), (([], []), 0, 0, 0))
            self.assertEqual((all_shapes(run), lowest_rooms(run)), ([(0, ((), ()), 0)], (0, [0])))
        alone = [("right", 7, 5)]
        self.assertEqual(laid_out(alone, (5, 2), "left"), ([], [((-9, 2), 0)]))
        self.assertEqual((laid_height(alone, 0), run_need(alone), run_wish(alone)), (5, 7, 7))
        self.assertEqual(laid_height([("left", 3, 0)], 9), 0)

    def test_alignment(self):
        run = [("left", 3, 4), ("right", 2, 4), (1, "ab cd")]
        lefts = [laid_out(run, 10, align)[0][0][2] for align in ALIGNS]
        self.assertEqual(lefts, [(3, 1), (3, 1), (3, 1)])
        self.assertEqual([laid_out(run, (27, 2), align)[0][0][2] for align in ALIGNS], [(3, 1), (19, 4), (13, 2)])
        # A line that is too wide begins at the left end.
        self.assertEqual([laid_out([(9, "ab")], 10, align)[0][0][2] for align in ALIGNS], [ZERO] * 3)
        self.assertEqual([laid_out([(9, "ab")], 18, align)[0][0][2] for align in ALIGNS], [ZERO] * 3)

    def test_floats_in_words(self):
        # Within a word it is met ahead of it, at its end behind it.
        self.assertEqual(laid_out([(1, "x a"), ("left", 1, 1), (1, "b")], 3, "left")[1], [(ZERO, 0)])
        self.assertEqual(laid_out([(1, "x a"), ("left", 1, 1), (1, " b")], 3, "left")[1], [(ZERO, 2)])
        self.assertEqual(laid_out([(1, "x a"), ("left", 2, 1), (1, "b")], 3, "left")[0][0][:2], (0, 1))
        self.assertEqual(laid_out([(1, "x a"), ("left", 2, 1), (1, " b")], 3, "left")[0][0][:2], (0, 2))
        self.assertEqual(laid_out([(1, "ab"), ("left", 5, 1), (1, "cd")], 9, "left"), ([(0, 1, (5, 1), 0, 4, 2)], [(ZERO, 0)]))

    def test_reasons(self):
        run = [("left", 4, 6), ("right", 4, 9), (1, "a"), ("left", 3, 1), ("left", 1, 1), (1, " b"), ("right", 1, 1)]
        self.assertEqual([why_there(run, 10, number) for number in range(5)], [(None, []), (None, []), (("room", 0, 1), [(2, 0, 1)]), (("waits", 2), []), (("top", 3), [])])
        self.assertEqual(laid_out(run, 10, "left")[1], [(ZERO, 0), ((6, 1), 0), (ZERO, 6), ((3, 1), 6), ((5, 1), 6)])
        # The one whose foot was lower is asked again at each foot; None where nothing stands on a side.
        falling = [("left", 5, 3), ("left", 2, 5), ("left", 9, 1)]
        self.assertEqual(why_there(falling, 9, 2), (("room", 1, None), [(0, 1, None), (3, 1, None)]))
        self.assertEqual(why_there([("right", 5, 3), ("left", 6, 2), ("left", 1, 1)], 9, 1), (("room", None, 0), [(0, None, 0)]))
        self.assertEqual(laid_out(falling, 9, "left")[1], [(ZERO, 0), ((5, 1), 0), (ZERO, 5)])
        # Of several with the same end the first one is told; what has no height stands nowhere, but has a foot.
        same = [("left", 4, 2), ("left", 0, 3), ("left", 9, 1)]
        self.assertEqual(why_there(same, 9, 2), (("room", 0, None), [(0, 0, None), (2, 1, None)]))
        flat = [("left", 9, 0), (1, "a"), ("left", 9, 0), ("left", 9, 4), ("right", 1, 1)]
        self.assertEqual([why_there(flat, 9, number)[0] for number in range(4)], [None, None, ("line",), ("waits", 2)])
        self.assertEqual(laid_out(flat, 9, "left"), ([(0, 1, ZERO, 0, 1, 2)], [(ZERO, 0), (ZERO, 0), (ZERO, 2), ((8, 1), 6)]))
        feet = [("left", 9, 4), ("left", 9, 0), ("left", 9, 3), (1, "a"), ("left", 9, 5)]
        self.assertEqual([why_there(feet, 9, number) for number in range(4)], [(None, []), (("room", 0, None), []), (("waits", 1), []), (("waits", 1), [(6, 2, None)])])

    def test_what_sticks_out(self):
        run = [("left", 3, 4), (2, "aaaa"), ("right", 0, 0), (1, " b")]
        self.assertEqual(laid_out(run, 5, "right"), ([(0, 1, ZERO, 4, 8, 4), (1, 2, (4, 1), 8, 1, 2)], [(ZERO, 0), ((5, 1), 8)]))
        self.assertEqual(why_there(run, 5, 1), (("line",), []))

    def test_floats_below_the_line(self):
        # The line at 8 reaches down to 10 alone as long as its words are small; the high one comes below both floats.
        run = [(1, "a"), ("left", 6, 10), ("left", 9, 5), (1, " b" * 9), (3, " c")]
        lines, floats = laid_out(run, 10, "left")
        self.assertEqual(lines, [(at, at + 2, (6, 1), at, 3, 2) for at in range(0, 10, 2)] + [(10, 11, ZERO, 15, 3, 6)])
        self.assertEqual(floats, [(ZERO, 0), (ZERO, 10)])
        self.assertEqual(why_there(run, 10, 1), (("room", 0, None), [(2, 0, None)]))
        # A high word on the line at 8 would reach down into the wider one.
        self.assertEqual(laid_out(run[:3] + [(1, " b" * 8), (2, " c")], 10, "left")[0][-2:], [(8, 9, (6, 1), 8, 1, 2), (9, 10, ZERO, 15, 2, 4)])

    def test_thrown_runs_one_by_one(self):
        dice = Dice(55)
        reasons = set()
        for _ in range(250):
            run = some_run(dice, 1 + dice.throw(6), dice.throw(6))
            for room in (told(Fraction(dice.throw(60), 1 + dice.throw(3))), (dice.throw(12), 1), told(run_need(run))):
                plain = PlainLaying(run, Fraction(*room))
                for align in ALIGNS:
                    self.assertEqual(laid_out(run, room, align), (plain.lines_told(align), plain.floats_told()))
                self.assertEqual(laid_height(run, room), plain.whole_height())
                for number, row in enumerate(plain.told):
                    self.assertEqual(why_there(run, room, number), row)
                    reasons.add((row[0] or [None])[0])
                self.check_around(run, room, plain)
                self.check_turned(run, room)
        self.assertEqual(reasons, {None, "waits", "top", "room", "line"})

    def check_around(self, run, room, plain):
        texts = [thing for thing in run if len(thing) == 2]
        lines, _ = laid_out(texts, room, "left")
        self.assertEqual([line[:2] for line in lines], lines_in(run, room))
        self.assertEqual([line[4:] for line in lines], line_sizes(run, room))
        sticks = any(Fraction(*line[2]) + line[4] > Fraction(*room) for line in laid_out(run, room, "left")[0])
        sticks = sticks or any(thing[1] > Fraction(*room) for thing in run if len(thing) == 3)
        self.assertEqual(sticks, Fraction(*room) < run_need(run))

    def check_turned(self, run, room):
        for align in ALIGNS:
            lines, floats = laid_out(run, room, align)
            others, other_floats = laid_out(turned(run), room, TURNED[align])
            self.assertEqual([line[:2] + line[3:] for line in lines], [line[:2] + line[3:] for line in others])
            for line, other in zip(lines, others):
                # A line that is too wide begins at the left end of its room, on both sides.
                if Fraction(*line[2]) + line[4] <= Fraction(*room) and Fraction(*line[2]) + Fraction(*other[2]) != 0 and line[4] <= run_need(run) <= Fraction(*room):
                    self.assertEqual(Fraction(*line[2]) + line[4] + Fraction(*other[2]), Fraction(*room))
            things = [thing for thing in run if len(thing) == 3]
            for thing, (left, top), (other_left, other_top) in zip(things, floats, other_floats):
                self.assertEqual((top, Fraction(*left) + thing[1] + Fraction(*other_left)), (other_top, Fraction(*room)))

    def test_cut(self):
        dice = Dice(66)
        for _ in range(120):
            run = some_run(dice, 3 + dice.throw(4), 1 + dice.throw(4))
            room = (dice.throw(40), 1)
            lines, floats = laid_out(run, room, "mid")
            for cut in range(1, len(run) + 1):
                words = words_of(run[:cut])
                if [word[:3] for word in words] != [word[:3] for word in words_of(run)[:len(words)]]:
                    continue
                some_lines, some_floats = laid_out(run[:cut], room, "mid")
                reasons = [why_there(run[:cut], room, number)[0] for number in range(len(some_floats))]
                self.assertEqual(reasons, [why_there(run, room, number)[0] for number in range(len(some_floats))])
                for number, reason in enumerate(reasons):
                    if reason is None:
                        self.assertEqual(some_floats[number], floats[number])
                self.assertEqual(some_lines[:-1], lines[:len(some_lines) - 1] if some_lines else [])

    def test_all_shapes(self):
        dice = Dice(21)
        for _ in range(40):
            run = some_run(dice, 1 + dice.throw(4), dice.throw(5))
            shapes = all_shapes(run)
            self.assertEqual(shapes[0][0], 0)
            self.assertTrue(all(one[0] < other[0] and one[1] != other[1] for one, other in zip(shapes, shapes[1:])))
            for room in range(0, run_wish(run) + 3):
                for there in (Fraction(room), Fraction(2 * room + 1, 2), Fraction(1000 * room + 999, 1000)):
                    plain = PlainLaying(run, there)
                    here = [row for row in shapes if row[0] <= there][-1]
                    self.assertEqual(here[1:], (plain.shape(), plain.whole_height()))
            least = min(height for _, _, height in shapes)
            self.assertEqual(lowest_rooms(run), (least, [room for room, _, height in shapes if height == least]))
            self.check_wish(run)

    def check_wish(self, run):
        def is_wished(room):
            lines, tops = PlainLaying(run, room).shape()
            return [top for _, top in lines] in ([], [0]) and set(tops) <= {0}

        floats = [thing for thing in run if len(thing) == 3]
        words = plain_words(run)[0]
        self.assertTrue(is_wished(run_wish(run)) and is_wished(run_wish(run) + 100))
        if all(thing[2] for thing in floats) and (len(words) > 1 or words and floats):
            self.assertFalse(is_wished(run_wish(run) - Fraction(1, 1000)))

    def test_at_the_limits(self):
        dice = Dice(13)
        run = some_texts(dice, 90, (7, 20, 100), 14)
        for at in range(12):
            run.insert(at * 8, (dice.pick(["left", "right"]), dice.throw(4000), dice.throw(4000)))
        for room in (0, 900, 4000, (33333, 7), 10 ** 6):
            plain = PlainLaying(run, Fraction(*room) if isinstance(room, tuple) else room)
            self.assertEqual(laid_out(run, room, "right"), (plain.lines_told("right"), plain.floats_told()))
            self.assertEqual([why_there(run, room, number) for number in range(12)], plain.told)
        few = some_texts(dice, 20, (7, 20, 100), 4) + [("left", 10 ** 4, 10 ** 4)]
        for at in range(4):
            few.insert(at * 4, (dice.pick(["left", "right"]), dice.throw(400), dice.throw(400)))
        shapes = all_shapes(few)
        for least, shape, height in shapes[::20]:
            plain = PlainLaying(few, least)
            self.assertEqual((plain.shape(), plain.whole_height()), (shape, height))

    def test_errors_in_order(self):
        works = ((laid_out, (None, None)), (laid_height, (None,)), (why_there, (None, None)), (all_shapes, ()), (lowest_rooms, ()), (run_need, ()), (run_wish, ()))
        for bad in NO_THINGS:
            for work, more in works:
                self.assert_raises(BadRun, 1, work, [(1, "a"), bad, bad], *more)
        for thing in (None, 5, "ab", {}):
            for work, more in works:
                self.assert_raises(BadRun, 0, work, thing, *more)
        for room in NO_ROOMS:
            self.assert_keeps(BadRoom, room, laid_out, EXAMPLE, room, None)
            self.assert_keeps(BadRoom, room, laid_height, EXAMPLE, room)
            self.assert_keeps(BadRoom, room, why_there, EXAMPLE, room, None)
        for align in (None, 5, "", "middle", ["left"], ("left",), {}, deep_list(2000)):
            self.assert_keeps(BadAlign, align, laid_out, EXAMPLE, 5, align)
        for number in (None, -1, 1, True, "0", (0,), 1.5, deep_list(2000)):
            self.assert_keeps(BadNumber, number, why_there, EXAMPLE, 5, number)

    def test_what_was_passed_stays_and_what_is_new(self):
        run = [[10, "aa bb"], ["left", 30, 20], ["left", 99, 5], [10, " cc dd"]]
        lines, floats = laid_out(run, [79, 1], "left")
        lines.clear()
        floats.clear()
        why_there(run, 79, 1)[1].clear()
        all_shapes(run).clear()
        self.assertEqual(run, [[10, "aa bb"], ["left", 30, 20], ["left", 99, 5], [10, " cc dd"]])
        self.assertEqual(len(laid_out(run, 79, "left")[0]), 3)
        self.assertEqual(why_there(run, 79, 1), (("waits", 0), [(20, 0, None)]))


if __name__ == "__main__":
    unittest.main()
