"""The errors of oneround: each kind of refusal is a class of its own."""


class RoundError(ValueError):
    """Something that was handed in is refused."""


class BadYard(RoundError):
    """What was handed in is no YARD; place is () or (N,)."""

    def __init__(self, place):
        super().__init__(f"no yard: {place}")
        self.place = place


class BadText(RoundError):
    """A text can't be read; place is a number, -1 of the text as a whole."""

    def __init__(self, place):
        super().__init__(f"no such text: {place}")
        self.place = place


class BadEnd(RoundError):
    """What was handed in is no END; place is () or (N,)."""

    def __init__(self, place):
        super().__init__(f"no end: {place}")
        self.place = place


class BadSetting(RoundError):
    """What was handed in is no SETTING; place is () or (N,)."""

    def __init__(self, place):
        super().__init__(f"no setting: {place}")
        self.place = place


class BadTurn(RoundError):
    """What was handed in is no TURN that can be; place is () or (N,)."""

    def __init__(self, place):
        super().__init__(f"no turn: {place}")
        self.place = place


class BadLead(RoundError):
    """What was handed in is no LEAD; place is () or (N,)."""

    def __init__(self, place):
        super().__init__(f"no lead: {place}")
        self.place = place


class BadDraft(RoundError):
    """What was handed in is no DRAFT; place is () or (N,)."""

    def __init__(self, place):
        super().__init__(f"no draft: {place}")
        self.place = place


class BadSplit(RoundError):
    """What was handed in is no SPLIT; place is () or (N,)."""

    def __init__(self, place):
        super().__init__(f"no split: {place}")
        self.place = place


class BadNames(RoundError):
    """What was handed in are no NAMES; place is () or (N,)."""

    def __init__(self, place):
        super().__init__(f"no names: {place}")
        self.place = place


class BadTwins(RoundError):
    """What was handed in are no TWINS; place is ()."""

    def __init__(self, place):
        super().__init__(f"no twins: {place}")
        self.place = place


class BadWorths(RoundError):
    """What was handed in are no WORTHS; place is (), (N,) or (N, K)."""

    def __init__(self, place):
        super().__init__(f"no worths: {place}")
        self.place = place


class BadPaper(RoundError):
    """What was handed in is no PAPER; place is () or (N,)."""

    def __init__(self, place):
        super().__init__(f"no paper: {place}")
        self.place = place


class BadTable(RoundError):
    """What was handed in is no TABLE; place is () or (N,)."""

    def __init__(self, place):
        super().__init__(f"no table: {place}")
        self.place = place


class BadDeed(RoundError):
    """What was handed in is no DEED; place is () or (K,)."""

    def __init__(self, place):
        super().__init__(f"no deed: {place}")
        self.place = place


class OutOfPlace(RoundError):
    """A number tells nothing that is there; place is ()."""

    def __init__(self, place):
        super().__init__(f"out of place: {place}")
        self.place = place


class Barred(RoundError):
    """By this WAY it can't be one round any more."""

    def __init__(self, way):
        super().__init__(f"barred is the way: {way}")
        self.way = way


class NeverOne(RoundError):
    """A DRAFT can't be one round, as the SPLIT shows."""

    def __init__(self, split):
        super().__init__(f"never one round, by the split: {split}")
        self.split = split


class ManyRounds(RoundError):
    """A SETTING has so many ROUNDS, and should have one."""

    def __init__(self, many):
        super().__init__(f"rounds, not one: {many}")
        self.many = many


class TooMany(RoundError):
    """There are, or would be, more than there may be: so many."""

    def __init__(self, many):
        super().__init__(f"too many: {many}")
        self.many = many


class Nothing(LookupError):
    """There is nothing to take back; made of a text."""
