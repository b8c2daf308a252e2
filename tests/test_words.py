import unittest

from naive import Asserts, Dice, deep_list
from pagefall.lines import all_meetings, meeting_in, rooms_part, same_end
from pagefall.refusals import BadRoom, BadRun
from pagefall.trees import Tree
from pagefall.words import is_run, words_of
from runwise import plain_words, some_run
from test_forms import NO_FRACTIONS

RUN = [(10, "aa b"), (20, "b c")]
FLOAT = ("left", 3, 4)
NO_TEXTS = [(0, "a"), (-1, "a"), (True, "a"), (None, "a"), ("1", "a"), (1, None), (1, 5), (1, "A"), (1, "a\n"), (1, ["a"]), (1, "a", "b")]
NO_FLOATS = [("mid", 1, 1), (None, 1, 1), ("left", -1, 1), ("left", 1, -1), ("left", True, 1), ("left", 1, None), ("left", 1), ("left", 1, 1, 1), (["left"], 1, 1), ("left", (1, 1), 1)]
NO_THINGS = [None, 5, "ab", (), (1,), [], {}, deep_list(2000), Tree(("a", [], []))] + NO_TEXTS + NO_FLOATS
NO_ROOMS = [thing for thing in NO_FRACTIONS if thing != 5] + [-1, (-1, 2), "5"]


class WordsTest(unittest.TestCase, Asserts):
    def test_the_example(self):
        self.assertEqual(words_of(RUN), [((0, 0), 20, 20, 0), ((0, 3), 30, 40, 10), ((1, 2), 20, 40, 20)])

    def test_words(self):
        self.assertEqual(words_of([]), [])
        self.assertEqual(words_of([(1, ""), (2, "   "), FLOAT]), [])
        self.assertEqual(words_of([(1, "  a")]), [((0, 2), 1, 2, 0)])
        self.assertEqual(words_of([FLOAT, (3, "a"), FLOAT, (1, ""), (2, "b ")]), [((1, 0), 5, 6, 0)])
        # All blanks between count as the first one; floats between words do nothing.
        self.assertEqual(words_of([(1, "a "), FLOAT, (5, "  "), (2, " b"), (7, " "), FLOAT, (3, " c-.9 ")]), [((0, 0), 1, 2, 0), ((3, 1), 2, 4, 1), ((6, 1), 12, 6, 7)])
        self.assertEqual(words_of([[2, "a b"]]), [((0, 0), 2, 4, 0), ((0, 2), 2, 4, 2)])

    def test_thrown_runs(self):
        dice = Dice(15)
        for _ in range(300):
            run = some_run(dice, dice.throw(7), dice.throw(4))
            self.assertIs(is_run(run), True)
            self.assertEqual(words_of(run), plain_words(run)[0])

    def test_what_runs_are(self):
        for thing in ([], (), RUN, tuple(RUN), [list(RUN[0]), list(FLOAT)], [(1, "")], [("right", 0, 0)], [(10 ** 18, "az09-. ")]):
            self.assertIs(is_run(thing), True)
        for thing in [None, 5, "ab", {}, {0: (1, "a")}, Tree(("a", [], []))] + [[bad] for bad in NO_THINGS]:
            self.assertIs(is_run(thing), False, thing)

    def test_errors(self):
        for thing in (None, 5, "ab", {}, {0: (1, "a")}):
            self.assert_raises(BadRun, 0, words_of, thing)
        for bad in NO_THINGS:
            self.assert_raises(BadRun, 2, words_of, [(1, "a"), FLOAT, bad, None])
            for work, more in ((rooms_part, ()), (same_end, ()), (meeting_in, (None,)), (all_meetings, ())):
                self.assert_raises(BadRun, 1, work, [(1, "a"), bad], [bad], *more)
                self.assert_raises(BadRun, 0, work, RUN, [bad], *more)
        for room in NO_ROOMS:
            self.assert_keeps(BadRoom, room, meeting_in, RUN, RUN, room)


if __name__ == "__main__":
    unittest.main()
