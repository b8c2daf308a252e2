"""Lots: which selectors can match an element together and no others of them."""

from pagefall.nests import check_nest
from pagefall.questions import Question, Walk, check_selectors


def lots_of(selectors, nest=None):
    """The pairs of a tuple of indexes and the least spine of an element that just these selectors match."""
    check_selectors(selectors)
    check_nest(nest)
    question = Question(selectors, nest)
    walk = Walk(question, lambda matched: False)
    lots = []
    known = set()
    for at, state in enumerate(walk.states):
        numbers = tuple([index for index, matched in enumerate(question.matched_by(state)) if matched])
        if numbers not in known:
            known.add(numbers)
            lots.append((numbers, walk.spine_to(at)))
    return lots
