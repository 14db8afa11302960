"""SETTINGS of a YARD, and the ROUNDS that one goes by them."""

from oneround.errors import BadEnd, BadSetting, ManyRounds, OutOfPlace
from oneround.kinds import is_below
from oneround.yards import MANY_WAYS, PLACES, crossings, fars_of_lines, mate, way_joining


def need_setting(yard, thing):
    """The thing itself, a SETTING of the YARD; BadSetting of any other."""
    place = ways_fault(thing, crossings(yard), False)
    if place is not None:
        raise BadSetting(place)
    return thing


def ways_fault(thing, many, is_draft):
    """The place at which a thing is no tuple of so many WAYS (of a DRAFT also None); None of one."""
    if not isinstance(thing, tuple) or len(thing) != many:
        return ()
    for number, way in enumerate(thing):
        if not is_below(way, MANY_WAYS) and not (is_draft and way is None):
            return (number,)
    return None


def with_way(ways, crossing, way):
    """The WAYS, but with this one (None: OPEN) at the crossing."""
    return ways[:crossing] + (way,) + ways[crossing + 1:]


def rounds_of(yard, setting):
    """All ROUNDS of a SETTING, rising."""
    need_setting(yard, setting)
    return rounds_by_fars(fars_of_lines(yard), setting)


def rounds_by_fars(fars, setting):
    """All ROUNDS, rising, by the FAR of each END."""
    rounds = []
    gone = [False] * len(fars)
    # ENDS are asked rising: so each ROUND is begun at the least END of its LINES.
    for start in range(len(fars)):
        if not gone[start]:
            ends = round_from(fars, setting, start)
            for end in ends:
                gone[end] = gone[fars[end]] = True
            rounds.append(ends)
    return tuple(rounds)


def round_from(fars, setting, start):
    """The ENDS from which one goes on, in order, until one is back at the start."""
    ends = [start]
    end = end_after(fars, setting, start)
    while end != start:
        ends.append(end)
        end = end_after(fars, setting, end)
    return tuple(ends)


def end_after(fars, setting, end):
    """The END from which one goes on next, behind an END."""
    come_to = fars[end]
    return mate(come_to, setting[come_to // PLACES])


def many_rounds(yard, setting):
    """How many ROUNDS a SETTING has."""
    return len(rounds_of(yard, setting))


def need_one_round(yard, thing):
    """The thing itself, a SETTING of one ROUND; BadSetting or ManyRounds of any other."""
    many = many_rounds(yard, thing)
    if many != 1:
        raise ManyRounds(many)
    return thing


def round_at(yard, setting, end):
    """The ROUND that has the END's LINE."""
    need_setting(yard, setting)
    fars = fars_of_lines(yard)
    if not is_below(end, len(fars)):
        raise BadEnd(())
    ends = round_from(fars, setting, end)
    least = min([min(one, fars[one]) for one in ends])
    return round_from(fars, setting, least)


def meeting(yard, setting, crossing):
    """The numbers, rising, of the one or two ROUNDS that meet a crossing."""
    rounds = rounds_of(yard, setting)
    need_crossing(crossing, len(setting))
    return rounds_meeting(rounds, crossing)


def need_crossing(thing, many):
    """The thing itself, one of so many crossings; OutOfPlace of any other."""
    if not is_below(thing, many):
        raise OutOfPlace(())
    return thing


def rounds_meeting(rounds, crossing):
    """The numbers, rising, of those ROUNDS that meet a crossing."""
    return tuple([number for number, ends in enumerate(rounds) if meets(ends, crossing)])


def meets(ends, crossing):
    """Whether a ROUND meets a crossing."""
    # Whoever comes to an END goes on from another one of the same crossing.
    return any([end // PLACES == crossing for end in ends])


def outer_way(yard, setting, crossing):
    """The OUTER WAY at a crossing by a SETTING."""
    need_setting(yard, setting)
    need_crossing(crossing, len(setting))
    first = PLACES * crossing
    behind = open_end_behind(fars_of_lines(yard), with_way(setting, crossing, None), first)
    return way_joining(first, behind)


def open_end_behind(fars, draft, end):
    """The first END of an OPEN crossing to which one comes, going on from an END of one."""
    behind = fars[end]
    while draft[behind // PLACES] is not None:
        behind = fars[mate(behind, draft[behind // PLACES])]
    return behind
