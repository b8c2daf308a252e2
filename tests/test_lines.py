import unittest
from fractions import Fraction

from naive import Asserts, Dice, deep_list
from pagefall.errors import BadNumber
from pagefall.lines import all_meetings, all_rooms, chain_above, height_in, is_breaking, is_chain, least_room, line_sizes, lines_in, meeting_in
from pagefall.lines import rooms_part, same_end, taller_rooms
from pagefall.refusals import BadRoom, BadRun
from pagefall.words import words_of
from runwise import all_breakings, plain_words, row_height, row_width, some_run, some_texts
from test_words import NO_ROOMS, NO_THINGS, RUN

TWO_SIZES = [(2, "aaaaa "), (5, "b b")]


def told(room):
    room = Fraction(room)
    return (room.numerator, room.denominator)


def rooms_of(words):
    """Rooms at, right below and right above each width of a row of words, and between."""
    widths = {row_width(words, first, upto) for upto in range(1, len(words) + 1) for first in range(upto)} | {0}
    near = Fraction(1, 1000)
    return sorted({room for width in widths for room in (width - near, width, width + near, width + Fraction(1, 2), width + 1) if room >= 0})


def plain_lines(words, room):
    """What stands first in each line: the longest lines that fit, one behind another."""
    lines = []
    first = 0
    while first < len(words):
        upto = first + 1
        while upto < len(words) and row_width(words, first, upto + 1) <= room:
            upto += 1
        lines.append((first, upto))
        first = upto
    return lines


def plain_meeting(one, other, room):
    """The greatest number of last words that are alike, with which lines of both begin."""
    words, others = words_of(one), words_of(other)
    begins = [{len(row) - first for first, _ in plain_lines(row, room)} for row in (words, others)]
    return max([many for many in begins[0] & begins[1] if many <= plain_end(words, others)], default=0)


def plain_end(words, others):
    most = 0
    for many in range(1, min(len(words), len(others)) + 1):
        one, other = words[-many:], others[-many:]
        if all(a[1:3] == b[1:3] for a, b in zip(one, other)) and all(a[3] == b[3] for a, b in zip(one[1:], other[1:])):
            most = many
    return most


class LinesTest(unittest.TestCase, Asserts):
    def test_the_examples(self):
        self.assertEqual(lines_in(RUN, 60), [(0, 2), (2, 3)])
        self.assertEqual(line_sizes(RUN, 60), [(60, 40), (20, 40)])
        self.assertEqual(lines_in(RUN, 59), [(0, 1), (1, 2), (2, 3)])
        self.assertEqual((least_room(RUN, 2), least_room(RUN, 1)), (60, 100))
        self.assertEqual(chain_above(RUN, 59, 2), [0, 1, 2])
        self.assertEqual(all_rooms(RUN), [(0, (0, 1, 2), 100), (60, (0, 2), 80), (100, (0,), 40)])
        self.assertEqual(line_sizes(TWO_SIZES, 15), [(10, 4), (15, 10)])
        self.assertEqual(line_sizes(TWO_SIZES, 17), [(17, 10), (5, 10)])
        self.assertEqual(taller_rooms(TWO_SIZES), (15, 17))
        self.assertIsNone(taller_rooms(RUN))

    def test_without_words(self):
        for run in ([], [(5, "  ")], [("left", 9, 9)]):
            self.assertEqual((lines_in(run, 5), line_sizes(run, 5), height_in(run, 5)), ([], [], 0))
            self.assertEqual((least_room(run, 0), all_rooms(run), taller_rooms(run)), (0, [(0, (), 0)], None))
            self.assertIsNone(chain_above(run, 5, 0))
            self.assertIs(is_breaking(run, 5, []), True)
            self.assertIs(is_chain(run, 5, []), False)
            self.assertEqual((rooms_part(run, []), same_end(run, RUN), meeting_in(run, RUN, 9), all_meetings(RUN, run)), (None, 0, 0, [(0, 0)]))
            self.assertEqual(rooms_part(run, RUN), 0)
        self.assertIsNone(least_room(RUN, 0))

    def test_rooms(self):
        self.assertEqual(lines_in(RUN, (119, 2)), lines_in(RUN, 59))
        self.assertEqual(lines_in(RUN, [120, 2]), lines_in(RUN, 60))
        self.assertEqual(lines_in(RUN, (120 * 10 ** 9 - 1, 2 * 10 ** 9)), lines_in(RUN, 59))
        self.assertEqual(lines_in(RUN + [("left", 50, 50)], 60), lines_in(RUN, 60))

    def test_thrown_runs(self):
        dice = Dice(20)
        for _ in range(60):
            run = some_run(dice, 1 + dice.throw(5), dice.throw(2), (1, 2, 3, 5))
            words = plain_words(run)[0]
            told_rooms = all_rooms(run)
            for room in rooms_of(words):
                lines = plain_lines(words, room)
                self.assertEqual(lines_in(run, told(room)), lines)
                heights = [row_height(words, first, upto) for first, upto in lines]
                self.assertEqual(line_sizes(run, told(room)), [(row_width(words, first, upto), height) for (first, upto), height in zip(lines, heights)])
                self.assertEqual(height_in(run, told(room)), sum(heights))
                here = [row for row in told_rooms if row[0] <= room][-1]
                self.assertEqual(here[1:], (tuple(first for first, _ in lines), sum(heights)))
            self.assertEqual(told_rooms[0][0], 0)
            self.assertTrue(all(one[0] < other[0] and one[1] != other[1] for one, other in zip(told_rooms, told_rooms[1:])))
            taller = [(one[0], other[0]) for one, other in zip(told_rooms, told_rooms[1:]) if other[2] > one[2]]
            self.assertEqual(taller_rooms(run), taller[0] if taller else None)

    def test_fewest_lines_by_all_ways(self):
        dice = Dice(31)
        for _ in range(40):
            run = some_texts(dice, 3, (1, 2, 3), 6)
            words = words_of(run)[:8]
            if len(words) < len(words_of(run)):
                continue
            for room in rooms_of(words)[::3]:
                self.check_fewest(run, words, room)
            for many in range(len(words) + 2):
                rooms = [room for room in rooms_of(words) if min(map(len, all_breakings(words, room))) <= many]
                self.assertEqual(least_room(run, many), rooms[0] if rooms else None)

    def check_fewest(self, run, words, room):
        ways = list(all_breakings(words, room))
        lines = lines_in(run, told(room))
        self.assertEqual(len(lines), min(map(len, ways)))
        for way in ways:
            self.assertIs(is_breaking(run, told(room), way), True)
            self.assertTrue(all(line[0] >= other[0] for line, other in zip(lines, way)))
        for many in range(len(words) + 2):
            chain = chain_above(run, told(room), many)
            if many < len(lines):
                self.assertEqual(chain, [first for first, _ in lines][:many + 1])
                self.assertIs(is_chain(run, told(room), chain), True)
            else:
                self.assertIsNone(chain)

    def test_breakings_and_chains(self):
        self.assertIs(is_breaking(RUN, 60, ([0, 2], [2, 3])), True)
        self.assertIs(is_breaking(RUN, 60, [(0, 1), (1, 3)]), False)
        self.assertIs(is_breaking(RUN, 0, [(0, 1), (1, 2), (2, 3)]), True)
        for thing in [None, 5, "ab", {}, [], [(0, 2)], [(0, 3)], [(0, 2), (1, 3)], [(0, 1), (2, 3)], [(0, 2), (2, 4)], [(0, 2), (2, 2), (2, 3)], [(2, 3), (0, 2)], [(0, 2), (2, True)], [(False, 2), (2, 3)], [(0, 2), (2,)], [(0, 2), None], [(0, 2), (2, 3, 3)], [(0, 2), (2, -1)], deep_list(2000)]:
            self.assertIs(is_breaking(RUN, 60, thing), False, thing)
        for thing in ([0], [2], (0, 2), [0, 1, 2], [1, 2]):
            self.assertIs(is_chain(RUN, 59, thing), True, thing)
        self.assertIs(is_chain(RUN, 60, [0, 1]), False)
        self.assertIs(is_chain(RUN, 5, [0, 0]), False)
        for thing in [None, 5, "ab", {}, [], [3], [-1], [True], [0, True], [1, 0], [0, 0], [0, 1, 1], [0, None], [(0,)], deep_list(2000)]:
            self.assertIs(is_chain(RUN, 59, thing), False, thing)

    def test_two_runs(self):
        dice = Dice(44)
        parted = 0
        for _ in range(80):
            one = some_texts(dice, 1 + dice.throw(4), (1, 2), 7)
            other = some_texts(dice, dice.throw(3), (1, 2), 6) + one[dice.throw(len(one) + 1):]
            words, others = words_of(one), words_of(other)
            self.assertEqual(same_end(one, other), plain_end(words, others))
            self.assertEqual(same_end(one, one), len(words))
            unlike = []
            meetings = all_meetings(one, other)
            for room in sorted(set(rooms_of(words) + rooms_of(others))):
                heights = [[row_height(row, first, upto) for first, upto in plain_lines(row, room)] for row in (words, others)]
                unlike += [room] if heights[0] != heights[1] else []
                met = plain_meeting(one, other, room)
                self.assertEqual(meeting_in(one, other, told(room)), met)
                self.assertEqual([many for least, many in meetings if least <= room][-1], met)
                if met:
                    ends = [[(first - len(row), upto - len(row)) for first, upto in plain_lines(row, room) if first >= len(row) - met] for row in (words, others)]
                    self.assertEqual(ends[0], ends[1])
            self.assertEqual(rooms_part(one, other), unlike[0] if unlike else None)
            self.assertEqual(meetings[0][0], 0)
            self.assertTrue(all(a[0] < b[0] and a[1] != b[1] for a, b in zip(meetings, meetings[1:])))
            parted += bool(unlike)
        self.assertTrue(20 < parted < 80)

    def test_same_ends_at_their_edges(self):
        self.assertEqual(same_end([(2, "a b")], [(2, "a"), (3, " "), (2, "b")]), 1)
        self.assertEqual(same_end([(2, "a bb")], [(2, "c"), (2, " d"), (2, "-")]), 2)
        self.assertEqual(same_end([(2, "x a bb")], [(2, "a bb")]), 2)
        self.assertEqual(same_end([(2, "a")], [(1, "aa")]), 0)
        self.assertEqual(same_end([(1, "a"), (2, "b")], [(2, "b"), (1, "a")]), 1)
        # Lines that begin with words whose gaps ahead are unlike meet there all the same.
        self.assertEqual(meeting_in([(2, "aa b b")], [(9, "cccccc "), (2, "b b")], 6), 2)
        self.assertEqual(all_meetings([(1, "a b c")], [(1, "aaa b c")]), [(0, 2), (3, 0)])
        self.assertEqual(all_meetings([(1, "aa b c")], [(1, "a bb c")]), [(0, 1), (3, 0), (4, 1), (6, 0)])

    def test_at_the_limits(self):
        dice = Dice(90)
        run = [(1 + dice.throw(100), "".join(dice.pick("ab") for _ in range(dice.throw(12))) + " ") for _ in range(90)]
        words = plain_words(run)[0]
        for room in (0, 700, 1999, 5000, 10 ** 6):
            self.assertEqual(lines_in(run, room), plain_lines(words, room))
        self.assertEqual(chain_above(run, 700, 10), [first for first, _ in plain_lines(words, 700)][:11])
        few = run[:24]
        self.assertGreater(len(all_rooms(few)), 50)
        for many in (1, 5, 20):
            room = least_room(few, many)
            self.assertEqual((len(lines_in(few, room)) <= many, is_chain(few, (2 * room - 1, 2), chain_above(few, (2 * room - 1, 2), many))), (True, True))
        self.assertEqual(rooms_part(few, few), None)
        self.assertEqual(all_meetings(few, few[:-1]), [(room, meeting_in(few, few[:-1], room)) for room, _ in all_meetings(few, few[:-1])])

    def test_errors_in_order(self):
        with_room = ((lines_in, ()), (line_sizes, ()), (height_in, ()), (is_breaking, (None,)), (is_chain, (None,)), (chain_above, (None,)))
        for bad in NO_THINGS:
            for work, more in with_room:
                self.assert_raises(BadRun, 1, work, [(1, "a"), bad], None, *more)
            for work, more in ((least_room, (None,)), (all_rooms, ()), (taller_rooms, ())):
                self.assert_raises(BadRun, 0, work, (bad, (1, "a")), *more)
        for room in NO_ROOMS:
            for work, more in with_room:
                self.assert_keeps(BadRoom, room, work, RUN, room, *more)
        for many in (None, -1, True, "1", (1,), (1, 1), 1.5, deep_list(2000)):
            self.assert_keeps(BadNumber, many, chain_above, RUN, 5, many)
            self.assert_keeps(BadNumber, many, least_room, RUN, many)

    def test_what_was_passed_stays(self):
        run = [[10, "aa b"], ["left", 3, 4]]
        for work in (lines_in, line_sizes, height_in):
            work(run, [60, 1])
        all_rooms(run).clear()
        lines_in(run, 60).clear()
        self.assertEqual(run, [[10, "aa b"], ["left", 3, 4]])
        self.assertEqual(len(all_rooms(run)), 2)


if __name__ == "__main__":
    unittest.main()
