"""Differences: scripts that make rows out of a base's rows, and the least of them."""

from fewasks.errors import NoScript
from fewasks.forms import MOST_ROWS, is_int, is_ints, is_pair, is_row

TAKE = 3
PUT = 2


def is_script(thing):
    """Whether it is a script, of whatever base."""
    if not isinstance(thing, tuple) or not all([is_piece(piece) for piece in thing]):
        return False
    return sum([rows_in(piece) for piece in thing]) <= MOST_ROWS


def is_piece(thing):
    if not isinstance(thing, tuple) or len(thing) == 0:
        return False
    if thing[0] == "take":
        return len(thing) == 3 and is_int(thing[1]) and is_int(thing[2]) and thing[1] >= 0 and thing[2] >= 1
    return thing[0] == "put" and is_pair(thing) and are_put(thing[1])


def are_put(thing):
    return isinstance(thing, tuple) and len(thing) > 0 and all([is_row(row) for row in thing])


def rows_in(piece):
    """How many rows the piece takes or puts."""
    return len(piece[1]) if piece[0] == "put" else piece[2]


def is_right_over(base, thing):
    """Whether it is a script that takes nothing beyond the base's rows."""
    if not is_script(thing):
        return False
    return all([piece[0] == "put" or piece[1] + piece[2] <= len(base) for piece in thing])


def refuse_wrong(base, thing):
    if not is_right_over(base, thing):
        raise NoScript("no right script over this base")


def done(base, script):
    """The rows that the script makes of the base."""
    refuse_wrong(base, script)
    return made(base, script)


def made(base, script):
    """The same of a script that is known to be right."""
    rows = []
    for piece in script:
        rows.extend(piece[1] if piece[0] == "put" else base[piece[1]:piece[1] + piece[2]])
    return tuple(rows)


def price(script, *, take=TAKE, put=PUT):
    """What the pieces of the script cost together."""
    if not is_script(script):
        raise NoScript("no script")
    return sum([put * rows_in(piece) if piece[0] == "put" else take for piece in script])


def joined(base, one, other):
    """The script that makes of the base what other makes of what one makes."""
    refuse_wrong(base, one)
    refuse_wrong(made(base, one), other)
    pieces = []
    for piece in other:
        if piece[0] == "put":
            pieces.append(piece)
        else:
            pieces.extend(part_of(one, piece[1], piece[1] + piece[2]))
    return tuple(pieces)


def part_of(script, begin, end):
    """The pieces that make the rows from number begin to below number end, each cut to these."""
    pieces = []
    first = 0
    for piece in script:
        behind = first + rows_in(piece)
        low, high = max(begin, first), min(end, behind)
        if low < high:
            pieces.append(cut_piece(piece, low - first, high - first))
        first = behind
    return pieces


def cut_piece(piece, begin, end):
    if piece[0] == "put":
        return ("put", piece[1][begin:end])
    return ("take", piece[1] + begin, end - begin)


def right_least(base, rows, thing, *, take=TAKE, put=PUT):
    """Whether the thing is a script that makes the rows, with distances that show that none costs less."""
    if not is_pair(thing) or not is_right_over(base, thing[0]) or made(base, thing[0]) != rows:
        return False
    script, distances = thing
    if not is_ints(distances) or len(distances) != len(rows) + 1:
        return False
    if distances[0] != 0 or distances[-1] != price(script, take=take, put=put):
        return False
    return are_bounds(base, rows, distances, take, put)


def are_bounds(base, rows, distances, take, put):
    """Whether no piece that leads from a place to a later one costs less than the distance grows."""
    runs = longest_runs(base, rows)
    for begin in range(len(rows)):
        if distances[begin + 1] > distances[begin] + put:
            return False
        if max(distances[begin:begin + runs[begin][1] + 1]) > distances[begin] + take:
            return False
    return True


def longest_runs(base, rows):
    """For each of the rows where in the base most rows stand as from it on, and how many these are."""
    found = []
    ahead = [0] * (len(base) + 1)
    # A run from a place is the one from the next place and one row more, so the last row goes first.
    for row in reversed(rows):
        ahead = [ahead[at + 1] + 1 if text == row else 0 for at, text in enumerate(base)] + [0]
        many = max(ahead)
        found.append((ahead.index(many), many))
    return found[::-1]


def least(base, rows, *, take=TAKE, put=PUT):
    """A least script for the rows, and for each place the least price of the rows ahead of it."""
    distances, last_pieces = cheapest(base, rows, take, put)
    pieces = []
    end = len(rows)
    while end > 0:
        pieces.append(last_pieces[end])
        end -= rows_in(last_pieces[end])
    return (with_puts_together(pieces[::-1]), tuple(distances))


def cheapest(base, rows, take, put):
    """For each place the least price of the rows ahead of it, and the last piece of a script that costs so much."""
    runs = longest_runs(base, rows)
    distances, last_pieces = [0], [None]
    for end in range(1, len(rows) + 1):
        cost, piece = distances[end - 1] + put, ("put", rows[end - 1:end])
        for begin in range(end):
            if begin + runs[begin][1] >= end and distances[begin] + take < cost:
                cost, piece = distances[begin] + take, ("take", runs[begin][0], end - begin)
        distances.append(cost)
        last_pieces.append(piece)
    return distances, last_pieces


def with_puts_together(pieces):
    """The script of the pieces, in which puts that follow one another are one."""
    told = []
    for piece in pieces:
        if told and told[-1][0] == "put" and piece[0] == "put":
            told[-1] = ("put", told[-1][1] + piece[1])
        else:
            told.append(piece)
    return tuple(told)
