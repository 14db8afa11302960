"""The TALLY of a DRAFT: how many SETTINGS that FILL it have how many ROUNDS."""

from oneround.drafts import closed, draft_told, open_crossings, seam_fars
from oneround.errors import TooMany
from oneround.rounds import rounds_by_fars
from oneround.yards import MANY_WAYS, PLACES, fars_of_lines

# Of how many OPEN crossings at the most a TALLY is told.
MOST_TALLIED = 7


def tally(yard, *, draft=None):
    """The TALLY of a DRAFT, any one: pairs (R, N), R rising."""
    draft = draft_told(yard, draft)
    left = open_crossings(draft)
    if len(left) > MOST_TALLIED:
        raise TooMany(len(left))
    counts = {}
    for _, many in fillings(yard, draft):
        counts[many] = counts.get(many, 0) + 1
    return tuple(sorted(counts.items()))


def fillings(yard, draft):
    """Pairs (WAYS, MANY), rising: WAYS of the OPEN crossings, and how many ROUNDS come by them."""
    # What is CLOSED stays as it is: so only the few OPEN crossings are gone round, over SEAMS.
    apart = len(closed(yard, draft))
    fars = seam_fars(fars_of_lines(yard), draft)
    return [(ways, apart + len(rounds_by_fars(fars, ways))) for ways in all_ways(len(fars) // PLACES)]


def all_ways(many):
    """All tuples of so many WAYS, rising, in a list."""
    told = [()]
    for _ in range(many):
        told = [ahead + (way,) for ahead in told for way in range(MANY_WAYS)]
    return told
