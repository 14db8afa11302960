"""What is NEAR to a SETTING of one ROUND, LADDERS to the greatest worth, and all that are worth so much."""

from oneround.drafts import open_crossings
from oneround.errors import TooMany
from oneround.goings import greatest_worth, need_going_draft
from oneround.leads import other_turns, with_turns
from oneround.rounds import need_one_round
from oneround.tables import come_to_one, table_by_fars
from oneround.tallies import fillings
from oneround.worths import gain, need_worths, summed_worth
from oneround.yards import fars_of_lines

# Of how many OPEN crossings at the most the GREATEST ONES are told.
MOST_LISTED = 7


def near(yard, setting):
    """All that are NEAR to a SETTING of one ROUND, rising."""
    need_one_round(yard, setting)
    return tuple(sorted([with_turns(setting, turns) for turns in near_turns(fars_of_lines(yard), setting)]))


def near_turns(fars, setting):
    """A list of the TURNS, tuples of one or of two, by which one comes to each that is NEAR."""
    # The TABLE tells what comes to one ROUND without going round for each of so many.
    table = table_by_fars(fars, setting)
    turns = other_turns(setting)
    some = [(turn,) for turn in turns]
    some += [(turn, other) for turn in turns for other in turns if turn[0] < other[0]]
    return [done for done in some if come_to_one(table, done)]


def better(yard, worths, setting):
    """The one NEAR that is worth most, of several the least; None where it isn't worth more."""
    need_worths(yard, worths)
    need_one_round(yard, setting)
    return better_by_fars(fars_of_lines(yard), worths, setting)


def better_by_fars(fars, worths, setting):
    """The one NEAR to which a LADDER goes on, by the FAR of each END; None where it doesn't."""
    some = near_turns(fars, setting)
    gains = [gain(worths, setting, turns) for turns in some]
    most = max(gains)
    if most <= 0:
        return None
    return min([with_turns(setting, turns) for turns, more in zip(some, gains) if more == most])


def ladder(yard, worths, setting):
    """The LADDER from a SETTING of one ROUND: all its SETTINGS, in order."""
    need_worths(yard, worths)
    need_one_round(yard, setting)
    fars = fars_of_lines(yard)
    told = []
    while setting is not None:
        told.append(setting)
        setting = better_by_fars(fars, worths, setting)
    return tuple(told)


def greatest_ones(yard, worths, *, draft=None):
    """The GREATEST ONES of a DRAFT that CAN be one round, rising."""
    draft = need_going_draft(yard, worths, draft)
    left = open_crossings(draft)
    if len(left) > MOST_LISTED:
        raise TooMany(len(left))
    most = greatest_worth(yard, worths, draft=draft)
    ones = [with_turns(draft, list(zip(left, ways))) for ways, many in fillings(yard, draft) if many == 1]
    return tuple([setting for setting in ones if summed_worth(worths, setting) == most])
