"""Papers: lists of joint stands that show that there is no spine."""

from pagefall.kinds import is_list, is_word
from pagefall.questions import is_just_these, question_of, walk_to
from pagefall.stands import held_from, told_stand


def told_joint(question, state):
    """The joint stand that a question holds in bits."""
    helds, name, parent = state
    stands = tuple([told_stand(held) for held in helds])
    return stands if question.nest is None else stands + (name, parent)


def closed_list(has, lacks, nest=None):
    """The list of all joint stands of spines, or None if there is a spine of what is asked."""
    question = question_of(has, lacks, nest)
    walk = walk_to(question, len(has))
    if walk.hit is not None:
        return None
    return [told_joint(question, state) for state in walk.states]


def state_from(question, thing):
    """The state that is the joint stand, or None for a thing that is none."""
    many = len(question.choosers)
    if not is_list(thing) or len(thing) != (many if question.nest is None else many + 2):
        return None
    helds = tuple([held_from(chooser, stand) for chooser, stand in zip(question.choosers, thing)])
    if any([held is None for held in helds]):
        return None
    at_root = [held[1] is None for held in helds]
    if question.nest is None:
        return (helds, None, None) if all(at_root) or not any(at_root) else None
    name, parent = thing[many:]
    if not is_word(name) or parent is not None and not is_word(parent):
        return None
    return (helds, name, parent) if all([here == (parent is None) for here in at_root]) else None


def is_closed(has, lacks, nest, thing):
    """Whether a thing is a list of joint stands that no letter leaves, none of which is what is asked."""
    question = question_of(has, lacks, nest)
    states = [state_from(question, joint) for joint in thing] if is_list(thing) else [None]
    if any([state is None for state in states]):
        return False
    known = {state: True for state in states}
    if len(known) < len(states):
        return False
    if any([is_just_these(question.matched_by(state), len(has)) for state in states]):
        return False
    if not are_known(known, question.first_ways()):
        return False
    return all([are_known(known, question.ways_behind(state)) for state in states])


def are_known(known, ways):
    return all([state in known for _, state in ways])
