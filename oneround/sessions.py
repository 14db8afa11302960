"""SESSIONS: DEEDS change a YARD, its WORTHS and what is HELD; a SETTING of the greatest worth is KEPT.

A STATE is a tuple (YARD, WORTHS, HELD, KEPT).
"""

from oneround.drafts import can_by_fars
from oneround.errors import BadDeed, Barred, Nothing, OutOfPlace, TooMany
from oneround.exchanges import differing
from oneround.goings import greatest
from oneround.kinds import is_below
from oneround.leads import other_turns, with_turns
from oneround.rounds import with_way
from oneround.tables import come_to_one, table_by_fars
from oneround.worths import gain, need_worths, summed_worth, three_fault
from oneround.yards import MANY_WAYS, MOST_CROSSINGS, fars_of_lines, put_across, sewn_out

# What is wanted behind each DEED's word.
WANTED = {
    "worth": ("crossing", "three worths"),
    "hold": ("crossing", "way"),
    "loose": ("crossing",),
    "cross": ("line", "line", "three worths"),
    "sew": ("crossing", "way"),
}


class Session:
    """A YARD with WORTHS, what is HELD, and what is KEPT throughout, by DEEDS that can be undone."""

    def __init__(self, yard, worths):
        need_worths(yard, worths)
        self._state = (yard, worths, (None,) * len(worths), greatest(yard, worths))
        # Of each DEED that stands: the DEED, its TURNS and the STATE ahead of it.
        self._past = []

    def do(self, *, deed):
        """Does a DEED; its TURNS. Of one that is refused nothing is changed."""
        place = deed_fault(deed, len(self))
        if place is not None:
            raise BadDeed(place)
        need_can_be(self._state, deed)
        behind, turns = state_behind(self._state, deed)
        self._past.append((deed, turns, self._state))
        self._state = behind
        return turns

    def undo(self):
        """Takes the last DEED that stands back; Nothing where none does."""
        if not self._past:
            raise Nothing("no deed stands")
        _, _, self._state = self._past.pop()

    def yard(self):
        """The YARD as it is."""
        return self._state[0]

    def worths(self):
        """The WORTHS as they are."""
        return self._state[1]

    def held(self):
        """What is HELD, a DRAFT."""
        return self._state[2]

    def kept(self):
        """What is KEPT, a SETTING of one ROUND."""
        return self._state[3]

    def worth(self):
        """What KEPT is worth."""
        return summed_worth(self.worths(), self.kept())

    def log(self):
        """Pairs (DEED, TURNED) of those that stand, in order, in a new list."""
        return [(deed, turns) for deed, turns, _ in self._past]

    def copy(self):
        """Another SESSION, all as it is in this one, that goes on by itself."""
        other = Session(self.yard(), self.worths())
        other._state = self._state
        other._past = list(self._past)
        return other

    def __eq__(self, other):
        return isinstance(other, Session) and self._state == other._state

    def __len__(self):
        return len(self._state[1])

    def __str__(self):
        return f"{len(self)} crossings, worth {self.worth()}"

    def __repr__(self):
        return f"Session({str(self)})"


def deed_fault(thing, many):
    """The place at which a thing is by its form no DEED about so many crossings; None of one."""
    if not isinstance(thing, tuple) or not thing or not isinstance(thing[0], str) or thing[0] not in WANTED:
        return ()
    kinds = WANTED[thing[0]]
    if len(thing) != len(kinds) + 1:
        return ()
    for number, kind in enumerate(kinds, start=1):
        if not is_wanted(kind, thing[number], many):
            return (number,)
    return None


def is_wanted(kind, thing, many):
    """Whether a thing in a DEED is of the kind that is wanted there, of so many crossings."""
    if kind == "three worths":
        return three_fault(thing) is None
    if kind == "way":
        return is_below(thing, MANY_WAYS)
    # Each crossing has four ENDS, each LINE two.
    return is_below(thing, many if kind == "crossing" else 2 * many)


def need_can_be(state, deed):
    """Refuses a DEED that is one by its form but can't be."""
    yard, _, held, _ = state
    word = deed[0]
    crossing = deed[1]
    if word == "hold" or word == "sew":
        way = deed[2]
        if not can_by_fars(fars_of_lines(yard), with_way(held, crossing, way)):
            raise Barred(way)
    if word == "loose" and held[crossing] is None:
        raise OutOfPlace(())
    if word == "sew" and len(held) == 1:
        raise OutOfPlace(())
    if word == "cross" and len(held) == MOST_CROSSINGS:
        raise TooMany(len(held) + 1)


def state_behind(state, deed):
    """The STATE behind a DEED that can be, and its TURNS."""
    yard, worths, held, old = state_but_kept(state, deed)
    crossing = len(state[1]) if deed[0] == "cross" else deed[1]
    kept = best_beside(yard, worths, held, old, crossing)
    if deed[0] == "sew":
        yard = sewn_out(yard, crossing, deed[2])
        worths, held, old, kept = [without(things, crossing) for things in (worths, held, old, kept)]
    turns = [(at, kept[at]) for at in differing(kept, old)]
    return ((yard, worths, held, kept), tuple(turns))


def state_but_kept(state, deed):
    """The STATE with all done that a DEED does, but what it does to KEPT, and nothing SEWN OUT yet."""
    yard, worths, held, kept = state
    word = deed[0]
    if word == "cross":
        _, line, other, three = deed
        return (put_across(yard, line, other), worths + (three,), held + (None,), kept + (1,))
    crossing = deed[1]
    if word == "worth":
        return (yard, worths[:crossing] + (deed[2],) + worths[crossing + 1:], held, kept)
    way = None if word == "loose" else deed[2]
    return (yard, worths, with_way(held, crossing, way), kept)


def best_beside(yard, worths, held, kept, crossing):
    """The best SETTING of one ROUND that FILLS HELD and differs from KEPT at the crossing and at one more at most."""
    table = table_by_fars(fars_of_lines(yard), kept)
    turns = [turn for turn in other_turns(kept) if held[turn[0]] in (None, turn[1])]
    some = [()] if held[crossing] in (None, kept[crossing]) else []
    for turn in turns:
        if turn[0] == crossing:
            told = [(turn,)] + [(turn, other) for other in turns if other[0] != crossing]
            some += [done for done in told if come_to_one(table, done)]
    # Of the greatest worth, of several one that differs at fewest, of these the least.
    ranked = min([(-gain(worths, kept, done), len(done), with_turns(kept, done)) for done in some])
    return ranked[2]


def without(things, number):
    """A tuple without the thing of that number."""
    return things[:number] + things[number + 1:]
