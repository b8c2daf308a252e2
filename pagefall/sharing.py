"""What a width leaves above the leasts of columns, shared alike up to their greatests."""

from pagefall.forms import worth_at
from pagefall.pieces import joined_pieces
from pagefall.ratios import ZERO, ascending, is_at_most, is_below, lesser_of, minus, plus, sum_of, times


def widths_by(leasts, greatests, amount):
    """The widths if each column gets an amount above its least, up to its greatest."""
    return [lesser_of(plus(least, amount), greatest) for least, greatest in zip(leasts, greatests)]


def forms_from(widths, growing):
    """The forms of widths from their sum on, what is more being shared alike by those that grow."""
    whole = sum_of(widths)
    many = len([grows for grows in growing if grows])
    forms = []
    for width, grows in zip(widths, growing):
        share = (1, many) if grows else ZERO
        forms.append((minus(width, times(share, whole)), share))
    return tuple(forms)


def pieces_shared(leasts, greatests):
    """The pieces of the columns' widths at all widths."""
    still = tuple([(least, ZERO) for least in leasts])
    pieces = [(ZERO, sum_of(leasts), still)]
    rooms = [minus(greatest, least) for least, greatest in zip(leasts, greatests)]
    amounts = ascending([ZERO] + rooms)
    for at, amount in enumerate(amounts):
        widths = widths_by(leasts, greatests, amount)
        if at + 1 < len(amounts):
            high = sum_of(widths_by(leasts, greatests, amounts[at + 1]))
            growing = [is_below(amount, room) for room in rooms]
        else:
            high = None
            growing = [True] * len(rooms)
        pieces.append((sum_of(widths), high, forms_from(widths, growing)))
    return joined_pieces([piece for piece in pieces if piece[0] != piece[1]])


def widths_in(pieces, width):
    """The columns' widths at a width."""
    for _, high, forms in pieces:
        if high is None or is_at_most(width, high):
            return [worth_at(form, width) for form in forms]
    return []


def lines_behind(widths):
    """The places of the lines of columns of some widths."""
    places = [ZERO]
    for width in widths:
        places.append(plus(places[-1], width))
    return places
