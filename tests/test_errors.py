import inspect
import unittest

import pagefall.errors
import pagefall.refusals
from pagefall.errors import PageError

ERRORS = """BadNode(path), NoNode(path), NoPlace(path), NoText(path), NoElement(path), BadClass(klass), BadPath(path),
BadText(index), BadSelector(thing), BadSpine(thing), BadStand(thing), BadLetter(thing), BadNest(thing),
BadList(index), NoPart(part), BadRule(index), BadNumber(number), BadWord(word), BadWidth(width), BadGiven(word),
BadWhere(where), BadValue(thing)"""
REFUSALS = """BadDress(thing), NoBox(box), BadKinds(thing), BadAcross(thing), BadRoom(room), BadRows(index),
BadMargins(index), BadRun(index), BadAlign(align), BadItems(index), BadGap(thing), NoItem(index), BadSize(thing),
UnlikeItems(), BadCells(index), NoPlacing(), NoLine(line), BadPlace(thing), UnlikeColumns(), BadForm(thing),
BadFraction(thing), BadStretch(index), BadStretches(thing), BadForms(index), NoLines(path), BadWish(thing),
BadAbout(thing), BadShape(index), BadPoint(x, y), BadRectangle(index), BadRegion(thing)"""


def told_errors(text):
    """The pairs of a name and a list of parameters that the interface lists."""
    rows = []
    for part in text.replace("\n", " ").split("), "):
        name, _, parameters = part.strip(")").partition("(")
        rows.append((name, parameters.split(", ") if parameters else []))
    return rows


class ErrorsTest(unittest.TestCase):
    def check(self, module, text):
        for name, parameters in told_errors(text):
            error = getattr(module, name)
            self.assertEqual(error.__bases__, (PageError,), name)
            self.assertEqual(error.__module__, module.__name__)
            self.assertEqual(list(inspect.signature(error.__init__).parameters)[1:], parameters)
            kept = [[parameter] for parameter in parameters]
            for caught in (error(*kept), error(**dict(zip(parameters, kept)))):
                for parameter, thing in zip(parameters, kept):
                    self.assertIs(getattr(caught, parameter), thing)
                self.assertIsInstance(str(caught), str)

    def test_all_errors_of_both_files(self):
        self.assertEqual((len(told_errors(ERRORS)), len(told_errors(REFUSALS))), (22, 31))
        self.check(pagefall.errors, ERRORS)
        self.check(pagefall.refusals, REFUSALS)

    def test_page_error(self):
        self.assertEqual(PageError.__bases__, (ValueError,))
        listed = {name for name, _ in told_errors(ERRORS) + told_errors(REFUSALS)} | {"PageError"}
        for module in (pagefall.errors, pagefall.refusals):
            for name, thing in vars(module).items():
                if inspect.isclass(thing):
                    self.assertIn(name, listed)

    def test_what_is_kept_may_be_anything(self):
        deep = []
        for _ in range(5000):
            deep = [deep]
        self.assertIs(pagefall.errors.BadNest(deep).thing, deep)
        self.assertIsInstance(str(pagefall.errors.BadNest(deep)), str)


if __name__ == "__main__":
    unittest.main()
