"""Floats beside lines: where all stands, why there, and in all rooms."""

from pagefall.errors import BadNumber
from pagefall.kinds import is_whole
from pagefall.layings import Laying
from pagefall.properties import ALIGNS
from pagefall.refusals import BadAlign
from pagefall.spans import WIDTH, span_of, span_worth, still_span
from pagefall.watches import Watch, still_watch
from pagefall.words import Met, WordRows, check_run, told_room


def met_in(run):
    """A run as it is met, if it is right."""
    check_run(run)
    return Met(run)


def laying_in(met, room):
    """The laying in a room that is told."""
    return Laying(met, wide_floats(met), still_span(room), still_watch())


def wide_floats(met):
    """The floats of a run, widths as spans."""
    return [(side, span_of(width), height) for side, width, height in met.floats]


def laid_out(run, room, align):
    """The pair of the lines (first, upto, left, top, width, height) and the pairs (left, top) of the floats."""
    met = met_in(run)
    room = told_room(room)
    if not isinstance(align, str) or align not in ALIGNS:
        raise BadAlign(align)
    laying = laying_in(met, room)
    lines = []
    for line in laying.lines:
        width = laying.rows.width_of(line.first, line.upto)
        left = span_worth(laying.line_left(line, align), room)
        lines.append((line.first, line.upto, left, line.top, width, line.height))
    return (lines, [(span_worth(put.left_in(laying.room), room), put.top) for put in laying.puts])


def laid_height(run, room):
    """How far down a run goes."""
    met = met_in(run)
    return laying_in(met, told_room(room)).whole_height()


def why_there(run, room, number):
    """The pair of why a float did not go beside its line (None: it did), and the tops that were tried in vain."""
    met = met_in(run)
    room = told_room(room)
    reasons = laying_in(met, room).reasons
    if not is_whole(number) or number >= len(reasons):
        raise BadNumber(number)
    return reasons[number]


def all_shapes(run):
    """The triples of a room, the shape of the laying from it on, and its height, up to the next one's."""
    met = met_in(run)
    told = []
    floats = wide_floats(met)
    end = (0, 1)
    while end is not None:
        # All that is asked is whether an integer is at most the room, so the answers change at integers alone.
        watch = Watch(end)
        laying = Laying(met, floats, WIDTH, watch)
        shape = laying.shape()
        if not told or told[-1][1] != shape:
            told.append((end[0], shape, laying.whole_height()))
        end = watch.end
    return told


def lowest_rooms(run):
    """The pair of the least height, and the rooms of the shapes that have it."""
    told = all_shapes(run)
    least = min([height for _, _, height in told])
    return (least, [room for room, _, height in told if height == least])


def float_widths(met):
    return [width for _, width, _ in met.floats]


def run_need(run):
    """The greatest width of a word or a float."""
    met = met_in(run)
    return max([word.width for word in met.words] + float_widths(met), default=0)


def run_wish(run):
    """The width of all words in one row and all floats together."""
    met = met_in(run)
    return sum(float_widths(met)) + (WordRows(met.words).width_of(0, len(met.words)) if met.words else 0)
