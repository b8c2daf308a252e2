"""Questions to selectors about all trees, answered by the least spine that shows it."""

from pagefall.nests import check_nest
from pagefall.questions import Question, Walk, question_of, walk_to
from pagefall.selectors import check_selector


def least_spine(has, lacks, nest=None):
    """The least spine of an element that all of has match and none of lacks, or None."""
    return walk_to(question_of(has, lacks, nest), len(has)).spine_found()


def is_never(selector, nest=None):
    """Whether a selector matches no element of any tree."""
    check_selector(selector)
    return least_spine([selector], [], nest) is None


def is_within(one, other, nest=None):
    """Whether whatever one selector matches, the other one does."""
    check_selector(one)
    check_selector(other)
    return least_spine([one], [other], nest) is None


def spine_apart(one, other, nest=None):
    """The least spine of an element that just one of both selectors matches, or None."""
    check_selector(one)
    check_selector(other)
    check_nest(nest)
    question = Question([one, other], nest)
    return Walk(question, lambda matched: matched[0] != matched[1]).spine_found()
