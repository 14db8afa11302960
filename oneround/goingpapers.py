"""PAPERS, which show the greatest worth of all SETTINGS of one ROUND by single steps."""

from oneround.drafts import open_crossings
from oneround.errors import BadPaper
from oneround.goings import need_going_draft
from oneround.kinds import is_below
from oneround.rounds import rounds_by_fars, with_way
from oneround.splits import split_fault
from oneround.worths import MOST_WORTH, rank_of, regret_of, worth_of
from oneround.yards import MANY_WAYS, fars_of_lines


def check_going(yard, worths, paper, *, draft=None):
    """The worth that a PAPER by the DRAFT shows; BadPaper of anything else."""
    draft = need_going_draft(yard, worths, draft)
    if not isinstance(paper, tuple) or len(paper) != len(open_crossings(draft)):
        raise BadPaper(())
    fars = fars_of_lines(yard)
    # No REGRET is above this one, so that the first row needs no case of its own.
    ahead = 2 * MOST_WORTH
    for number, step in enumerate(paper):
        if not is_row(step, draft) or not is_as_told(step, fars, worths, draft, ahead):
            raise BadPaper((number,))
        crossing, way, _ = step
        ahead = regret_of(worths[crossing])
        draft = with_way(draft, crossing, way)
    if len(rounds_by_fars(fars, draft)) != 1:
        raise BadPaper((len(paper),))
    return worth_of(yard, worths, draft)


def is_row(thing, draft):
    """Whether a thing is a triple of a crossing that is OPEN in the DRAFT, a WAY and anything."""
    if not isinstance(thing, tuple) or len(thing) != 3:
        return False
    crossing, way, _ = thing
    return is_below(crossing, len(draft)) and draft[crossing] is None and is_below(way, MANY_WAYS)


def is_as_told(step, fars, worths, draft, ahead):
    """Whether a row's REGRET, not above the one ahead, its WAY and its SPLIT are as a PAPER has them."""
    crossing, way, split = step
    best, second, _ = rank_of(worths[crossing])
    if regret_of(worths[crossing]) > ahead:
        return False
    if way == best:
        return split is None
    return way == second and split_fault(fars, with_way(draft, crossing, best), split) is None
