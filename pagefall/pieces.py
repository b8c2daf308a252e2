"""Pieces: rows of a room, the one up to which (None: without end), and what is told from the one up to the other."""

from pagefall.kinds import is_width
from pagefall.ratios import ascending
from pagefall.refusals import BadRoom


def check_room(room):
    """Raise an error for what is no fraction from 0 on."""
    if not is_width(room):
        raise BadRoom(room)


def joined_pieces(pieces):
    """The pieces with neighbours that tell the same as one."""
    joined = []
    for low, high, told in pieces:
        if joined and joined[-1][2] == told:
            low = joined.pop()[0]
        joined.append((low, high, told))
    return joined


def parted_at(one, other):
    """The room up to which two lists of joined pieces tell the same, None for all rooms."""
    for (low, high, told), (_, other_high, other_told) in zip(one, other):
        if told != other_told:
            return low
        if high != other_high:
            return ascending([end for end in (high, other_high) if end is not None])[0]
    return None
