"""The GOING of a DRAFT, the GREATEST that comes of it, and PRICES of WAYS."""

from oneround.drafts import draft_told, need_can_be_one, split_by_fars
from oneround.errors import OutOfPlace
from oneround.kinds import is_below
from oneround.leads import with_turns
from oneround.rounds import with_way
from oneround.worths import need_worths, rank_of, row, worth_of
from oneround.yards import MANY_WAYS, fars_of_lines


def need_going_draft(yard, worths, draft):
    """The DRAFT that is told, behind YARD and WORTHS: one that CAN be one round, OPEN alone of None."""
    need_worths(yard, worths)
    return need_can_be_one(yard, draft_told(yard, draft))


def going(yard, worths, *, draft=None):
    """The GOING of a DRAFT that CAN be one round: rows (CROSSING, WAY, SPLIT)."""
    draft = need_going_draft(yard, worths, draft)
    fars = fars_of_lines(yard)
    told = []
    for crossing in row(yard, worths):
        if draft[crossing] is None:
            best, second, _ = rank_of(worths[crossing])
            split = split_by_fars(fars, with_way(draft, crossing, best))
            # At most one WAY is BARRED: where it is the BEST, the SECOND is not.
            way = best if split is None else second
            draft = with_way(draft, crossing, way)
            told.append((crossing, way, split))
    return tuple(told)


def greatest(yard, worths, *, draft=None):
    """The GREATEST: the SETTING that comes of the GOING."""
    turns = [(crossing, way) for crossing, way, _ in going(yard, worths, draft=draft)]
    return with_turns(draft_told(yard, draft), turns)


def greatest_worth(yard, worths, *, draft=None):
    """What the GREATEST is worth: no SETTING of one ROUND that FILLS the DRAFT is worth more."""
    return worth_of(yard, worths, greatest(yard, worths, draft=draft))


def price(yard, worths, crossing, way, *, draft=None):
    """By how much the greatest worth is less with the WAY at an OPEN crossing; None where it is BARRED."""
    draft = need_going_draft(yard, worths, draft)
    if not is_below(crossing, len(draft)) or draft[crossing] is not None or not is_below(way, MANY_WAYS):
        raise OutOfPlace(())
    joined = with_way(draft, crossing, way)
    if split_by_fars(fars_of_lines(yard), joined) is not None:
        return None
    return greatest_worth(yard, worths, draft=draft) - greatest_worth(yard, worths, draft=joined)
