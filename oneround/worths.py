"""WORTHS of a YARD: what each WAY is worth at each crossing, and how crossings are ranked by them."""

from oneround.errors import BadWorths
from oneround.kinds import is_number
from oneround.rounds import need_crossing, need_setting
from oneround.yards import MANY_WAYS, crossings

MOST_WORTH = 10 ** 30


def need_worths(yard, thing):
    """The thing itself, WORTHS of the YARD; BadWorths of any other."""
    place = worths_fault(thing, crossings(yard))
    if place is not None:
        raise BadWorths(place)
    return thing


def worths_fault(thing, many):
    """The place at which a thing is no WORTHS of so many crossings; None of WORTHS."""
    if not isinstance(thing, tuple) or len(thing) != many:
        return ()
    for crossing, three in enumerate(thing):
        place = three_fault(three)
        if place is not None:
            return (crossing,) + place
    return None


def three_fault(thing):
    """The place at which a thing is no three worths, as a crossing has them; None of three."""
    if not isinstance(thing, tuple) or len(thing) != MANY_WAYS:
        return ()
    for way, worth in enumerate(thing):
        if not is_number(worth) or not -MOST_WORTH <= worth <= MOST_WORTH:
            return (way,)
    return None


def worth_of(yard, worths, setting):
    """What a SETTING is worth: the worths of its WAYS, together."""
    need_worths(yard, worths)
    need_setting(yard, setting)
    return summed_worth(worths, setting)


def summed_worth(worths, setting):
    """What the WAYS of a SETTING are worth together, of good ones."""
    return sum([worths[crossing][way] for crossing, way in enumerate(setting)])


def gain(worths, setting, turns):
    """By how much more a SETTING is worth with TURNS at unlike crossings done."""
    return sum([worths[crossing][way] - worths[crossing][setting[crossing]] for crossing, way in turns])


def rank(yard, worths, crossing):
    """The three WAYS at a crossing by worth falling, of alike ones the lesser WAY ahead."""
    need_worths(yard, worths)
    need_crossing(crossing, len(worths))
    return rank_of(worths[crossing])


def rank_of(three):
    """The three WAYS, by what each is worth, as RANK has them."""
    falling = sorted([(-worth, way) for way, worth in enumerate(three)])
    return tuple([way for _, way in falling])


def regret(yard, worths, crossing):
    """What the BEST WAY at a crossing is worth less what the SECOND is."""
    need_worths(yard, worths)
    need_crossing(crossing, len(worths))
    return regret_of(worths[crossing])


def regret_of(three):
    """The REGRET, by what each of the three WAYS is worth."""
    best, second, _ = rank_of(three)
    return three[best] - three[second]


def row(yard, worths):
    """All crossings by REGRET falling, of alike ones the lesser number ahead."""
    need_worths(yard, worths)
    falling = sorted([(-regret_of(three), crossing) for crossing, three in enumerate(worths)])
    return tuple([crossing for _, crossing in falling])
