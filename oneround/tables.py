"""TABLES of SETTINGS of one ROUND, by which ROUNDS are told without going."""

from oneround.errors import BadSetting, BadTable, BadTurn
from oneround.kinds import is_below
from oneround.leads import turn_fault, with_turns
from oneround.rounds import need_one_round, round_from, ways_fault, with_way
from oneround.yards import MANY_WAYS, MOST_CROSSINGS, PLACES, fars_of_lines, mate, way_joining


def need_table(thing):
    """The thing itself, a TABLE by its form; BadTable of any other."""
    place = table_fault(thing)
    if place is not None:
        raise BadTable(place)
    return thing


def table_fault(thing):
    """The place at which a thing is no TABLE by its form; None of one."""
    if not isinstance(thing, tuple) or len(thing) != 3:
        return ()
    setting, outers, rows = thing
    if not is_some_setting(setting):
        return (0,)
    if not are_outers(outers, setting):
        return (1,)
    if not are_rows(rows, len(setting)):
        return (2,)
    return None


def is_some_setting(thing):
    """Whether a thing is a SETTING of one to 40 crossings."""
    if not isinstance(thing, tuple) or not 1 <= len(thing) <= MOST_CROSSINGS:
        return False
    return ways_fault(thing, len(thing), False) is None


def are_outers(thing, setting):
    """Whether a thing has for each crossing a WAY that isn't the SETTING's."""
    if ways_fault(thing, len(setting), False) is not None:
        return False
    return all([way != outer for way, outer in zip(setting, thing)])


def are_rows(thing, many):
    """Whether a thing has a row for each of so many crossings, each one that has another in the other's row."""
    if not isinstance(thing, tuple) or len(thing) != many:
        return False
    if not all([are_rising(crossings, many) for crossings in thing]):
        return False
    pairs = [(crossing, other) for crossing in range(many) for other in thing[crossing]]
    return all([crossing != other and crossing in thing[other] for crossing, other in pairs])


def are_rising(thing, many):
    """Whether a thing is a rising tuple of some of so many crossings."""
    if not isinstance(thing, tuple):
        return False
    ahead = -1
    for crossing in thing:
        if not is_below(crossing, many) or crossing <= ahead:
            return False
        ahead = crossing
    return True


def table_of(yard, setting):
    """The TABLE of a SETTING of one ROUND."""
    need_one_round(yard, setting)
    return table_by_fars(fars_of_lines(yard), setting)


def table_by_fars(fars, setting):
    """The TABLE of a SETTING that is known to have one ROUND, by the FAR of each END."""
    ends = round_from(fars, setting, 0)
    times = [[] for _ in setting]
    for time, end in enumerate(ends):
        times[end // PLACES].append(time)
    outers = []
    for crossing, (first, second) in enumerate(times):
        # Going on from the one END, one comes back to that with which the other one is joined.
        outers.append(way_joining(ends[first], mate(ends[second], setting[crossing])))
    return (setting, tuple(outers), tuple([alternating(times, crossing) for crossing in range(len(times))]))


def alternating(times, crossing):
    """The crossings, rising, that ALTERNATE with one, by the two times at which one comes to each."""
    first, second = times[crossing]
    told = []
    for other, (one, two) in enumerate(times):
        if (first < one < second) != (first < two < second):
            told.append(other)
    return tuple(told)


def need_setting_by(table, thing):
    """The thing itself, a SETTING of as many crossings as the TABLE has; BadSetting of any other."""
    setting, _, _ = table
    place = ways_fault(thing, len(setting), False)
    if place is not None:
        raise BadSetting(place)
    return thing


def rounds_by(table, setting):
    """How many ROUNDS a SETTING has, by the TABLE of another one: one more than there are FIRST NOUGHTS."""
    return len(noughts(table, setting)) + 1


def noughts(table, setting):
    """The FIRST NOUGHTS of a TABLE and a SETTING."""
    need_table(table)
    need_setting_by(table, setting)
    # Sums of FREE rows and of which crossings they are, by the highest 1 of each: none has that of another.
    free = {}
    told = []
    for crossing, ones in square(table, setting).items():
        summed = 1 << crossing
        while ones.bit_length() in free:
            free_ones, free_summed = free[ones.bit_length()]
            ones ^= free_ones
            summed ^= free_summed
        if ones == 0:
            told.append(tuple([at for at in range(len(setting)) if summed >> at & 1]))
        else:
            free[ones.bit_length()] = (ones, summed)
    return tuple(told)


def square(table, setting):
    """The SQUARE: a dict from the MARKED crossings, rising, to their rows, numbers with a bit for each 1."""
    ways, outers, rows = table
    told = {}
    for crossing, way in enumerate(setting):
        if way != ways[crossing]:
            columns = [other for other in rows[crossing] if setting[other] != ways[other]]
            if way != outers[crossing]:
                columns.append(crossing)
            told[crossing] = sum([1 << column for column in columns])
    return told


def is_nought(table, setting, thing):
    """Whether a thing is a NOUGHT of a TABLE and a SETTING: True or False, of anything."""
    need_table(table)
    need_setting_by(table, setting)
    if not are_rising(thing, len(setting)):
        return False
    ones_of = square(table, setting)
    left = 0
    for crossing in thing:
        if crossing not in ones_of:
            return False
        left ^= ones_of[crossing]
    return left == 0


def table_turned(table, turns):
    """The TABLE of the SETTING with one TURN done, or two, by which there is one ROUND again."""
    need_table(table)
    if not are_unlike_turns(table, turns) or not come_to_one(table, turns):
        raise BadTurn(())
    for crossing in third_ways_to(table, turns):
        table = turned_the_third_way(table, crossing)
    return table


def are_unlike_turns(table, thing):
    """Whether a thing is a tuple of one TURN, or of two at unlike crossings, to WAYS that the SETTING hasn't."""
    setting, _, _ = table
    if not isinstance(thing, tuple) or len(thing) not in (1, 2):
        return False
    if not all([turn_fault(turn, len(setting)) is None for turn in thing]):
        return False
    turned = with_turns(setting, thing)
    return len(thing) == len([way for way, old in zip(turned, setting) if way != old])


def come_to_one(table, turns):
    """Whether one TURN, or two at unlike crossings, to WAYS that the SETTING hasn't, leave one ROUND."""
    _, outers, rows = table
    are_third = all([way != outers[crossing] for crossing, way in turns])
    if len(turns) == 1:
        return are_third
    (crossing, _), (other, _) = turns
    # Two have no NOUGHT but () where the SQUARE has both 1s of its diagonal or both others, not all four.
    return are_third != (other in rows[crossing])


def third_ways_to(table, turns):
    """The crossings to be turned the third way, one behind another, so that one or two TURNS are done."""
    _, outers, _ = table
    third = [crossing for crossing, way in turns if way != outers[crossing]]
    outer = [crossing for crossing, way in turns if way == outers[crossing]]
    # Where both ALTERNATE, turned the third way at the one, the OUTER way of the other is its third way.
    return third + outer if third else outer + outer[:1]


def turned_the_third_way(table, crossing):
    """The TABLE, its SETTING turned at the crossing to the WAY that is neither its own nor the OUTER."""
    setting, outers, rows = table
    beside = rows[crossing]
    new_outers = list(outers)
    new_rows = list(rows)
    for other in beside:
        new_outers[other] = third_way(setting[other], outers[other])
        new_rows[other] = unlike_in(rows[other], beside, other)
    turned = with_way(setting, crossing, third_way(setting[crossing], outers[crossing]))
    return (turned, tuple(new_outers), tuple(new_rows))


def third_way(one, other):
    """The WAY that is neither of two."""
    return sum(range(MANY_WAYS)) - one - other


def unlike_in(crossings, others, but):
    """The crossings, rising, that are in just one of two tuples, all but one."""
    told = [crossing for crossing in crossings if crossing not in others]
    told += [crossing for crossing in others if crossing not in crossings and crossing != but]
    return tuple(sorted(told))
