"""NAMES: the crossings and ENDS of a YARD called otherwise."""

from oneround.drafts import need_draft
from oneround.errors import BadEnd, BadNames
from oneround.kinds import is_below
from oneround.rounds import need_setting
from oneround.yards import PLACES, mate, need_yard, way_joining


def need_names(yard, thing):
    """The thing itself, NAMES of the YARD; BadNames of any other."""
    place = names_fault(thing, 2 * len(need_yard(yard)))
    if place is not None:
        raise BadNames(place)
    return thing


def names_fault(thing, many_ends):
    """The place at which a thing is no NAMES for so many ENDS; None of NAMES."""
    if not isinstance(thing, tuple) or len(thing) != many_ends:
        return ()
    taken = [False] * many_ends
    for number, end in enumerate(thing):
        if not is_below(end, many_ends) or taken[end]:
            return (number,)
        # The first ones of this one's crossing and of all ahead are known to be ENDS by now.
        if end // PLACES != thing[number - number % PLACES] // PLACES:
            return (number,)
        taken[end] = True
    return None


def names_back(yard, names):
    """The NAMES that undo NAMES."""
    need_names(yard, names)
    back = [0] * len(names)
    for end, name in enumerate(names):
        back[name] = end
    return tuple(back)


def renamed(yard, names):
    """The YARD with its ENDS so called."""
    need_names(yard, names)
    lines = [(names[low], names[high]) for low, high in yard]
    return tuple(sorted([(min(line), max(line)) for line in lines]))


def setting_renamed(yard, names, setting):
    """The SETTING of the YARD RENAMED that joins what was joined."""
    need_names(yard, names)
    return ways_renamed(names, need_setting(yard, setting))


def draft_renamed(yard, names, draft):
    """The DRAFT of the YARD RENAMED that joins what was joined, and leaves OPEN what was."""
    need_names(yard, names)
    return ways_renamed(names, need_draft(yard, draft))


def ways_renamed(names, ways):
    """WAYS and None, at the crossings as they are called now, that join what was joined."""
    told = [None] * len(ways)
    for crossing, way in enumerate(ways):
        if way is not None:
            end = PLACES * crossing
            name = names[end]
            told[name // PLACES] = way_joining(name, names[mate(end, way)])
    return tuple(told)


def ends_renamed(yard, names, ends):
    """As many ENDS as were handed in, so called, rising."""
    need_names(yard, names)
    if not isinstance(ends, tuple):
        raise BadEnd(())
    for number, end in enumerate(ends):
        if not is_below(end, len(names)):
            raise BadEnd((number,))
    return tuple(sorted([names[end] for end in ends]))
