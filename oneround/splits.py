"""SPLITS, which show that a DRAFT can't be one round."""

from oneround.drafts import ends_beside, need_draft, split_by_fars
from oneround.errors import BadSplit
from oneround.kinds import is_below
from oneround.yards import fars_of_lines


def split_of(yard, draft):
    """The SPLIT of all ENDS to which one comes from END 0; None of a DRAFT that CAN be one round."""
    need_draft(yard, draft)
    return split_by_fars(fars_of_lines(yard), draft)


def check_split(yard, draft, split):
    """None of a SPLIT of the DRAFT, any one; BadSplit of anything else."""
    need_draft(yard, draft)
    place = split_fault(fars_of_lines(yard), draft, split)
    if place is not None:
        raise BadSplit(place)


def split_fault(fars, draft, thing):
    """The place at which a thing is no SPLIT of a DRAFT; None of a SPLIT."""
    if not isinstance(thing, tuple) or not 1 <= len(thing) < len(fars):
        return ()
    has = [False] * len(fars)
    ahead = -1
    for number, end in enumerate(thing):
        if not is_below(end, len(fars)) or end <= ahead:
            return (number,)
        has[end] = True
        ahead = end
    for number, end in enumerate(thing):
        if not all([has[other] for other in ends_beside(fars, draft, end)]):
            return (number,)
    return None
