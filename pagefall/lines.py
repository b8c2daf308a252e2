"""Lines of words, floats being left out."""

from pagefall.errors import BadNumber
from pagefall.kinds import is_list, is_whole
from pagefall.words import Met, WordRows, check_run, told_room


def rows_of(run):
    """The rows of the words of a right run."""
    check_run(run)
    return WordRows(Met(run).words)


def is_wide_in(rows, first, upto, room):
    """Whether a row is wider than a room."""
    return rows.width_of(first, upto) * room[1] > room[0]


def lines_by(rows, room):
    """The lines of words in a room, pairs of a first word and the one up to which they go."""
    lines = []
    first = 0
    for number in range(1, len(rows.words) + 1):
        if number == len(rows.words) or is_wide_in(rows, first, number + 1, room):
            lines.append((first, number))
            first = number
    return lines


def heights_by(rows, lines):
    return [rows.height_of(first, upto) for first, upto in lines]


def lines_in(run, room):
    """The lines of a run in a room, pairs of numbers of words, the second one not taken in."""
    rows = rows_of(run)
    return lines_by(rows, told_room(room))


def line_sizes(run, room):
    """The pairs of the width and the height of the lines."""
    rows = rows_of(run)
    lines = lines_by(rows, told_room(room))
    return [(rows.width_of(first, upto), rows.height_of(first, upto)) for first, upto in lines]


def height_in(run, room):
    """How high all lines are together."""
    rows = rows_of(run)
    return sum(heights_by(rows, lines_by(rows, told_room(room))))


def is_line_pair(thing):
    return is_list(thing) and len(thing) == 2 and is_whole(thing[0]) and is_whole(thing[1])


def is_breaking(run, room, thing):
    """Whether any object breaks all words into lines of one word or no wider than a room."""
    rows = rows_of(run)
    room = told_room(room)
    if not is_list(thing) or not all([is_line_pair(line) for line in thing]):
        return False
    at = 0
    for first, upto in thing:
        if first != at or not first < upto <= len(rows.words):
            return False
        if upto > first + 1 and is_wide_in(rows, first, upto, room):
            return False
        at = upto
    return at == len(rows.words)


def is_chain(run, room, thing):
    """Whether any object is a list of words such that no two neighbours in it stand in one line of a room."""
    rows = rows_of(run)
    room = told_room(room)
    if not is_list(thing) or len(thing) == 0:
        return False
    if not all([is_whole(number) and number < len(rows.words) for number in thing]):
        return False
    pairs = [(thing[at - 1], thing[at]) for at in range(1, len(thing))]
    return all([first < last and is_wide_in(rows, first, last + 1, room) for first, last in pairs])


def check_many(many):
    if not is_whole(many):
        raise BadNumber(many)


def chain_above(run, room, many):
    """None if so many lines are enough in a room, else a chain that shows they are not."""
    rows = rows_of(run)
    room = told_room(room)
    check_many(many)
    begins = [first for first, _ in lines_by(rows, room)]
    return begins[:many + 1] if len(begins) > many else None


def next_room(rows, lines):
    """The least room in which lines become other ones, or None."""
    wider = [rows.width_of(first, upto + 1) for first, upto in lines[:-1]]
    return min(wider) if wider else None


def lines_by_rooms(rows):
    """The pairs of an integer room and the lines from it on, up to the next one's."""
    told = []
    room = 0
    while room is not None:
        lines = lines_by(rows, (room, 1))
        told.append((room, lines))
        room = next_room(rows, lines)
    return told


def least_room(run, many):
    """The least room in which so many lines are enough, or None."""
    rows = rows_of(run)
    check_many(many)
    rooms = [room for room, lines in lines_by_rooms(rows) if len(lines) <= many]
    return rooms[0] if rooms else None


def all_rooms(run):
    """The triples of a room, the first words of its lines, and the height of them, up to the next one's."""
    rows = rows_of(run)
    told = []
    for room, lines in lines_by_rooms(rows):
        told.append((room, tuple([first for first, _ in lines]), sum(heights_by(rows, lines))))
    return told


def taller_rooms(run):
    """The first pair of neighbouring rooms of which the greater one has the greater height, or None."""
    told = all_rooms(run)
    taller = [at for at in range(1, len(told)) if told[at][2] > told[at - 1][2]]
    return (told[taller[0] - 1][0], told[taller[0]][0]) if taller else None


def rooms_of_both(one, other):
    """The ascending rooms at which lines of some of two runs become other ones."""
    return sorted(set([room for room, _ in lines_by_rooms(one) + lines_by_rooms(other)]))


def rooms_part(one, other):
    """The least room in which the lines of two runs have unlike heights, or None."""
    rows = rows_of(one)
    other_rows = rows_of(other)
    for number in rooms_of_both(rows, other_rows):
        room = (number, 1)
        if heights_by(rows, lines_by(rows, room)) != heights_by(other_rows, lines_by(other_rows, room)):
            return number
    return None


def are_like(word, other):
    return (word.width, word.height) == (other.width, other.height)


def alike_ends(one, other):
    """The greatest number of last words in which two rows of words end alike."""
    pairs = list(zip(one.words[::-1], other.words[::-1]))
    many = 0
    while many < len(pairs) and are_like(pairs[many][0], pairs[many][1]):
        many += 1
        if pairs[many - 1][0].gap != pairs[many - 1][1].gap:
            break
    return many


def same_end(one, other):
    """The greatest number of last words in which two runs end alike."""
    rows = rows_of(one)
    return alike_ends(rows, rows_of(other))


def begins_from_end(rows, room):
    """How many words are there from the begin of each line on, the most first."""
    return [len(rows.words) - first for first, _ in lines_by(rows, room)]


def meeting_by(one, other, alike, room):
    """The greatest number of last words, at most so many, with the first of which lines of both begin, or 0."""
    begins = begins_from_end(other, room)
    met = [many for many in begins_from_end(one, room) if many <= alike and many in begins]
    return met[0] if met else 0


def meeting_in(one, other, room):
    """From how many last words on the lines of two runs, which end alike in them, are the same in a room."""
    rows = rows_of(one)
    other_rows = rows_of(other)
    return meeting_by(rows, other_rows, alike_ends(rows, other_rows), told_room(room))


def all_meetings(one, other):
    """The pairs of a room and meeting_in from it on, up to the next one's, where it is unlike."""
    rows = rows_of(one)
    other_rows = rows_of(other)
    alike = alike_ends(rows, other_rows)
    told = []
    for room in rooms_of_both(rows, other_rows):
        many = meeting_by(rows, other_rows, alike, (room, 1))
        if not told or told[-1][1] != many:
            told.append((room, many))
    return told
