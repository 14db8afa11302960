"""EXCHANGES: one TURN or two from a SETTING of one ROUND towards another one; PATHS of them."""

from oneround.errors import BadTurn, OutOfPlace
from oneround.kinds import is_below
from oneround.leads import turn_fault, with_turns
from oneround.rounds import need_one_round, need_setting, rounds_by_fars, rounds_meeting
from oneround.yards import fars_of_lines


def differ(yard, setting, other):
    """The crossings, rising, at which two SETTINGS of any ROUNDS differ."""
    need_setting(yard, setting)
    need_setting(yard, other)
    return differing(setting, other)


def differing(setting, other):
    """The crossings, rising, at which two SETTINGS differ, of good ones."""
    return tuple([crossing for crossing, way in enumerate(setting) if way != other[crossing]])


def exchange(yard, setting, other, crossing):
    """The EXCHANGE of a SETTING towards the other one at a crossing: a tuple of one or two TURNS."""
    need_one_round(yard, setting)
    need_one_round(yard, other)
    if not is_below(crossing, len(setting)) or setting[crossing] == other[crossing]:
        raise OutOfPlace(())
    return exchange_by_fars(fars_of_lines(yard), setting, other, crossing)


def exchange_by_fars(fars, setting, other, crossing):
    """The EXCHANGE at a crossing at which both differ, by the FAR of each END."""
    first = (crossing, other[crossing])
    tried = with_turns(setting, (first,))
    rounds = rounds_by_fars(fars, tried)
    if len(rounds) == 1:
        return (first,)
    both = [at for at in differing(tried, other) if len(rounds_meeting(rounds, at)) == 2]
    return (first, (both[0], other[both[0]]))


def path(yard, setting, other):
    """The PATH from a SETTING to the other one: a tuple of EXCHANGES."""
    need_one_round(yard, setting)
    need_one_round(yard, other)
    fars = fars_of_lines(yard)
    told = []
    while setting != other:
        turns = exchange_by_fars(fars, setting, other, differing(setting, other)[0])
        setting = with_turns(setting, turns)
        told.append(turns)
    return tuple(told)


def done(yard, setting, turns):
    """The SETTING, of however many ROUNDS, with the TURNS done one behind another."""
    need_setting(yard, setting)
    if not isinstance(turns, tuple):
        raise BadTurn(())
    for number, turn in enumerate(turns):
        if turn_fault(turn, len(setting)) is not None:
            raise BadTurn((number,))
    return with_turns(setting, turns)
