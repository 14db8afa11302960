"""TURNS, and LEADS of them that make the ROUNDS of a SETTING one."""

from oneround.errors import BadLead, BadTurn
from oneround.kinds import is_below
from oneround.rounds import many_rounds, need_setting, rounds_by_fars, rounds_meeting, with_way
from oneround.yards import MANY_WAYS, crossings, fars_of_lines


def need_turn(yard, thing):
    """The thing itself, a TURN; BadTurn of any other."""
    place = turn_fault(thing, crossings(yard))
    if place is not None:
        raise BadTurn(place)
    return thing


def turn_fault(thing, many):
    """The place at which a thing is no TURN of so many crossings; None of a TURN."""
    if not isinstance(thing, tuple) or len(thing) != 2:
        return ()
    crossing, way = thing
    if not is_below(crossing, many):
        return (0,)
    if not is_below(way, MANY_WAYS):
        return (1,)
    return None


def turned(yard, setting, turn):
    """The SETTING with the TURN done."""
    need_setting(yard, setting)
    return with_turns(setting, (need_turn(yard, turn),))


def with_turns(setting, turns):
    """The SETTING with the TURNS done, one behind another."""
    for crossing, way in turns:
        setting = with_way(setting, crossing, way)
    return setting


def other_turns(setting):
    """All TURNS to WAYS that the SETTING hasn't, rising, in a list."""
    return [(crossing, way) for crossing, old in enumerate(setting) for way in range(MANY_WAYS) if way != old]


def change(yard, setting, turn):
    """How many ROUNDS more the TURN makes: 1, 0 or -1."""
    behind = turned(yard, setting, turn)
    return many_rounds(yard, behind) - many_rounds(yard, setting)


def first_lead(yard, setting):
    """The FIRST LEAD: each time the least crossing that two ROUNDS meet, and its least other WAY."""
    need_setting(yard, setting)
    fars = fars_of_lines(yard)
    lead = []
    rounds = rounds_by_fars(fars, setting)
    while len(rounds) > 1:
        crossing = least_between(rounds, len(setting))
        # By either other WAY the two ROUNDS are made one.
        way = 1 if setting[crossing] == 0 else 0
        lead.append((crossing, way))
        setting = with_way(setting, crossing, way)
        rounds = rounds_by_fars(fars, setting)
    return tuple(lead)


def least_between(rounds, many):
    """The least of so many crossings that two ROUNDS meet."""
    return min([crossing for crossing in range(many) if len(rounds_meeting(rounds, crossing)) == 2])


def check_lead(yard, setting, lead):
    """None of a LEAD of the SETTING; BadLead of anything else."""
    rounds = many_rounds(yard, setting)
    if not isinstance(lead, tuple) or len(lead) != rounds - 1:
        raise BadLead(())
    for number, turn in enumerate(lead):
        if turn_fault(turn, len(setting)) is not None:
            raise BadLead((number,))
    for number, turn in enumerate(lead):
        if change(yard, setting, turn) != -1:
            raise BadLead((number,))
        setting = turned(yard, setting, turn)
