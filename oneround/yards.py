"""YARDS: crossings of four ENDS each, and LINES from END to END."""

from oneround.errors import BadEnd, BadYard, Barred, OutOfPlace, TooMany
from oneround.kinds import is_below, is_number
from oneround.reaches import reached

MOST_CROSSINGS = 40

# How many ENDS a crossing has, and how many WAYS there are to join them two by two.
PLACES = 4
MANY_WAYS = 3


def need_yard(thing):
    """The thing itself, a YARD; BadYard of any other."""
    place = yard_fault(thing)
    if place is not None:
        raise BadYard(place)
    return thing


def is_yard(thing):
    """Whether a thing is a YARD: True or False, of anything."""
    return yard_fault(thing) is None


def yard_fault(thing):
    """The place at which a thing is no YARD, as BadYard tells it; None of a YARD."""
    if not isinstance(thing, tuple) or not can_be_many_lines(len(thing)):
        return ()
    many_ends = 2 * len(thing)
    taken = [False] * many_ends
    # The empty tuple is below every pair, so that the first LINE needs no case of its own.
    ahead = ()
    for number, line in enumerate(thing):
        if not is_line(line, many_ends) or line <= ahead or taken[line[0]] or taken[line[1]]:
            return (number,)
        taken[line[0]] = taken[line[1]] = True
        ahead = line
    return None if is_whole(thing) else (len(thing),)


def can_be_many_lines(many):
    """Whether a YARD may have so many LINES."""
    return many in range(2, 2 * MOST_CROSSINGS + 1, 2)


def is_line(thing, many_ends):
    """Whether a thing is a pair of two of so many ENDS, the lesser one ahead."""
    if not isinstance(thing, tuple) or len(thing) != 2:
        return False
    low, high = thing
    return is_below(low, many_ends) and is_below(high, many_ends) and low < high


def is_whole(lines):
    """Whether LINES that have each END once lead from each crossing to each other one."""
    return all(reached(crossings_beside(lines, len(lines) // 2), 0))


def crossings_beside(lines, many):
    """For each of so many crossings those to which LINES lead from it: a list of lists."""
    beside = [[] for _ in range(many)]
    for low, high in lines:
        beside[low // PLACES].append(high // PLACES)
        beside[high // PLACES].append(low // PLACES)
    return beside


def yard_of(pairs):
    """The YARD of LINES in any order, the ENDS of each in any order, in lists or tuples."""
    if not are_loose_lines(pairs):
        raise BadYard(())
    many_ends = 2 * len(pairs)
    taken = [False] * many_ends
    lines = []
    for number, (one, other) in enumerate(pairs):
        for end in (one, other):
            if not is_below(end, many_ends) or taken[end]:
                raise BadYard((number,))
            taken[end] = True
        lines.append((min(one, other), max(one, other)))
    return need_yard(tuple(sorted(lines)))


def are_loose_lines(thing):
    """Whether a thing is, by its form alone, as many pairs of unlike numbers as a YARD may have."""
    if not isinstance(thing, (list, tuple)) or not can_be_many_lines(len(thing)):
        return False
    return all([is_loose_line(pair) for pair in thing])


def is_loose_line(thing):
    """Whether a thing is a list or tuple of two unlike numbers."""
    if not isinstance(thing, (list, tuple)) or len(thing) != 2:
        return False
    one, other = thing
    return is_number(one) and is_number(other) and one != other


def crossings(yard):
    """How many crossings a YARD has."""
    return len(need_yard(yard)) // 2


def far(yard, end):
    """The other END of the LINE that an END has."""
    fars = far_ends(yard)
    if not is_below(end, len(fars)):
        raise BadEnd(())
    return fars[end]


def far_ends(yard):
    """The FAR of each END, in a list."""
    return fars_of_lines(need_yard(yard))


def fars_of_lines(lines):
    """The FAR of each END by LINES that are known to be those of a YARD."""
    fars = [0] * (2 * len(lines))
    for low, high in lines:
        fars[low] = high
        fars[high] = low
    return fars


def mate(end, way):
    """The END with which an END is joined by a WAY."""
    # Places that WAY 0, 1 or 2 joins differ in just the bits of 1, 2 or 3.
    return end ^ (way + 1)


def way_joining(end, other):
    """The WAY that joins two ENDS of a crossing."""
    return (end ^ other) - 1


def put_across(yard, line, other):
    """The YARD with a new crossing PUT ACROSS two LINES, or across one LINE twice."""
    many = crossings(yard)
    if many == MOST_CROSSINGS:
        raise TooMany(many + 1)
    if not is_below(line, len(yard)) or not is_below(other, len(yard)):
        raise OutOfPlace(())
    stay = [pair for number, pair in enumerate(yard) if number != line and number != other]
    new = PLACES * many
    low, high = yard[line]
    if line == other:
        come = [(low, new), (new + 1, new + 2), (high, new + 3)]
    else:
        other_low, other_high = yard[other]
        come = [(low, new), (high, new + 2), (other_low, new + 1), (other_high, new + 3)]
    return tuple(sorted(stay + come))


def sewn_out(yard, crossing, way):
    """The YARD without a crossing, gone through by the WAY; Barred where none is left by it."""
    many = crossings(yard)
    if many == 1 or not is_below(crossing, many) or not is_below(way, MANY_WAYS):
        raise OutOfPlace(())
    fars = fars_of_lines(yard)
    if closes(fars, crossing, way):
        raise Barred(way)
    left = lines_left(fars, crossing, way)
    if not is_whole(left):
        raise Barred(way)
    return left


def closes(fars, crossing, way):
    """Whether something at a crossing, not the only one, closes by itself by the WAY."""
    # Other crossings have LINES to this one, so at most one LINE leads back to it:
    # what closes is that LINE alone.
    first = PLACES * crossing
    for end in range(first, first + PLACES):
        if fars[end] == mate(end, way):
            return True
    return False


def lines_left(fars, crossing, way):
    """The LINES that a crossing SEWN OUT by the WAY leaves, rising."""
    lines = []
    for end in range(len(fars)):
        if end // PLACES != crossing:
            behind = end_behind(fars, end, crossing, way)
            if end < behind:
                lines.append((closed_up(end, crossing), closed_up(behind, crossing)))
    return tuple(lines)


def end_behind(fars, end, crossing, way):
    """The END of another crossing to which one comes from such an END, through the crossing."""
    behind = fars[end]
    while behind // PLACES == crossing:
        behind = fars[mate(behind, way)]
    return behind


def closed_up(end, crossing):
    """What an END of another crossing is called when the crossing has gone out."""
    return end - PLACES if end // PLACES > crossing else end
