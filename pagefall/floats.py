"""Floats beside lines: where all stands, why there, and in all rooms."""

from pagefall.errors import BadNumber
from pagefall.kinds import is_whole
from pagefall.layings import Laying
from pagefall.properties import ALIGNS
from pagefall.ratios import lowest, minus
from pagefall.refusals import BadAlign
from pagefall.words import Met, WordRows, check_run, told_room


def met_in(run):
    """A run as it is met, if it is right."""
    check_run(run)
    return Met(run)


def line_left(line, width, room, align):
    """Where a line begins."""
    left, right = line.ends.left, line.ends.right
    spare = minus(room, (left + right + width, 1))
    if align == "left" or spare[0] < 0:
        return (left, 1)
    share = spare if align == "right" else lowest(spare[0], 2 * spare[1])
    return lowest(left * share[1] + share[0], share[1])


def float_left(put, room):
    return (put.near, 1) if put.side == "left" else minus(room, (put.far, 1))


def laid_out(run, room, align):
    """The pair of the lines (first, upto, left, top, width, height) and the pairs (left, top) of the floats."""
    met = met_in(run)
    room = told_room(room)
    if not isinstance(align, str) or align not in ALIGNS:
        raise BadAlign(align)
    laying = Laying(met, room)
    lines = []
    for line in laying.lines:
        width = laying.rows.width_of(line.first, line.upto)
        left = line_left(line, width, room, align)
        lines.append((line.first, line.upto, left, line.top, width, line.height))
    return (lines, [(float_left(put, room), put.top) for put in laying.puts])


def laid_height(run, room):
    """How far down a run goes."""
    met = met_in(run)
    return Laying(met, told_room(room)).whole_height()


def why_there(run, room, number):
    """The pair of why a float did not go beside its line (None: it did), and the tops that were tried in vain."""
    met = met_in(run)
    room = told_room(room)
    reasons = Laying(met, room).reasons
    if not is_whole(number) or number >= len(reasons):
        raise BadNumber(number)
    return reasons[number]


def all_shapes(run):
    """The triples of a room, the shape of the laying from it on, and its height, up to the next one's."""
    met = met_in(run)
    told = []
    room = 0
    while room is not None:
        laying = Laying(met, (room, 1))
        shape = laying.shape()
        if not told or told[-1][1] != shape:
            told.append((room, shape, laying.whole_height()))
        room = laying.failed
    return told


def lowest_rooms(run):
    """The pair of the least height, and the rooms of the shapes that have it."""
    told = all_shapes(run)
    least = min([height for _, _, height in told])
    return (least, [room for room, _, height in told if height == least])


def float_widths(met):
    return [thing[1] for _, thing in met.things if thing is not None]


def run_need(run):
    """The greatest width of a word or a float."""
    met = met_in(run)
    return max([word.width for word in met.words] + float_widths(met), default=0)


def run_wish(run):
    """The width of all words in one row and all floats together."""
    met = met_in(run)
    return sum(float_widths(met)) + (WordRows(met.words).width_of(0, len(met.words)) if met.words else 0)
