"""DRAFTS of a YARD: some crossings joined, the others OPEN; and whether they can be one ROUND."""

from oneround.errors import BadDraft, NeverOne, TooMany
from oneround.reaches import reached
from oneround.rounds import meets, open_end_behind, rounds_by_fars, ways_fault, with_way
from oneround.yards import MANY_WAYS, PLACES, crossings, crossings_beside, fars_of_lines, mate

# Of how many OPEN crossings at the most ONES are counted.
MOST_OPEN = 9


def need_draft(yard, thing):
    """The thing itself, a DRAFT of the YARD; BadDraft of any other."""
    place = ways_fault(thing, crossings(yard), True)
    if place is not None:
        raise BadDraft(place)
    return thing


def draft_told(yard, draft):
    """The DRAFT that is told; where none is (None), the one that is OPEN alone."""
    many = crossings(yard)
    return (None,) * many if draft is None else need_draft(yard, draft)


def open_crossings(draft):
    """The OPEN crossings of a DRAFT, rising, in a list."""
    return [crossing for crossing, way in enumerate(draft) if way is None]


def seams(yard, draft):
    """The SEAMS of a DRAFT: pairs of ENDS of OPEN crossings, rising."""
    need_draft(yard, draft)
    return seams_by_fars(fars_of_lines(yard), draft)


def seams_by_fars(fars, draft):
    """The SEAMS of a DRAFT by the FAR of each END."""
    told = []
    for crossing in open_crossings(draft):
        for end in range(PLACES * crossing, PLACES * (crossing + 1)):
            behind = open_end_behind(fars, draft, end)
            if end < behind:
                told.append((end, behind))
    return tuple(told)


def closed(yard, draft):
    """What is CLOSED: the ROUNDS that meet no OPEN crossing, rising."""
    need_draft(yard, draft)
    left = open_crossings(draft)
    # ROUNDS that meet no OPEN crossing are there whatever WAYS the OPEN ones get.
    setting = tuple([0 if way is None else way for way in draft])
    rounds = rounds_by_fars(fars_of_lines(yard), setting)
    return tuple([ends for ends in rounds if not any([meets(ends, crossing) for crossing in left])])


def pieces(yard, draft):
    """The PIECES of a DRAFT: the OPEN crossings, parted; rising tuples, rising."""
    need_draft(yard, draft)
    beside = crossings_beside(seams_by_fars(fars_of_lines(yard), draft), len(draft))
    told = []
    left = open_crossings(draft)
    while left:
        together = reached(beside, left[0])
        told.append(tuple([crossing for crossing in left if together[crossing]]))
        left = [crossing for crossing in left if not together[crossing]]
    return tuple(told)


def can_be_one(yard, draft):
    """Whether some SETTING of one ROUND FILLS a DRAFT."""
    need_draft(yard, draft)
    return can_by_fars(fars_of_lines(yard), draft)


def can_by_fars(fars, draft):
    """Whether a DRAFT CAN be one round, by the FAR of each END."""
    # What is CLOSED and each PIECE hold together in themselves and stay apart from each other.
    return all(reached_from_first(fars, draft))


def reached_from_first(fars, draft):
    """Whether one comes to each END from END 0 over LINES, joined ENDS and OPEN crossings."""
    return reached([ends_beside(fars, draft, end) for end in range(len(fars))], 0)


def ends_beside(fars, draft, end):
    """The ENDS that a SPLIT that has an END has to have with it."""
    crossing = end // PLACES
    if draft[crossing] is None:
        return [fars[end]] + list(range(PLACES * crossing, PLACES * (crossing + 1)))
    return [fars[end], mate(end, draft[crossing])]


def split_by_fars(fars, draft):
    """The SPLIT of all ENDS to which one comes from END 0; None of a DRAFT that CAN be one round."""
    told = reached_from_first(fars, draft)
    if all(told):
        return None
    return tuple([end for end in range(len(fars)) if told[end]])


def need_can_be_one(yard, draft):
    """The DRAFT itself, one that CAN be one round; NeverOne of any other."""
    need_draft(yard, draft)
    split = split_by_fars(fars_of_lines(yard), draft)
    if split is not None:
        raise NeverOne(split)
    return draft


def barred(yard, draft):
    """A dict from the OPEN crossings, rising, at which a WAY is BARRED, to that WAY."""
    need_can_be_one(yard, draft)
    fars = fars_of_lines(yard)
    told = {}
    for crossing in open_crossings(draft):
        for way in range(MANY_WAYS):
            if not can_by_fars(fars, with_way(draft, crossing, way)):
                told[crossing] = way
    return told


def filled(yard, draft):
    """The first SETTING of one ROUND that FILLS a DRAFT."""
    setting = need_can_be_one(yard, draft)
    fars = fars_of_lines(yard)
    for crossing in open_crossings(draft):
        tried = with_way(setting, crossing, 0)
        # At most one WAY is BARRED: where it is 0, 1 is not.
        setting = tried if can_by_fars(fars, tried) else with_way(setting, crossing, 1)
    return setting


def ones(yard, *, draft=None):
    """How many SETTINGS of one ROUND FILL a DRAFT, of all OPEN where none is told."""
    draft = draft_told(yard, draft)
    left = open_crossings(draft)
    if len(left) > MOST_OPEN:
        raise TooMany(len(left))
    fars = fars_of_lines(yard)
    if not can_by_fars(fars, draft):
        return 0
    return ones_by_fars(seam_fars(fars, draft)) if left else 1


def seam_fars(fars, draft):
    """The FAR of each END of the YARD that the OPEN crossings are by their SEAMS, in a tuple."""
    left = open_crossings(draft)
    number_of = {crossing: number for number, crossing in enumerate(left)}
    told = []
    for crossing in left:
        for end in range(PLACES * crossing, PLACES * (crossing + 1)):
            behind = open_end_behind(fars, draft, end)
            told.append(PLACES * number_of[behind // PLACES] + behind % PLACES)
    return tuple(told)


def ones_by_fars(fars):
    """How many SETTINGS of one ROUND a YARD has, by the tuple of the FAR of each END."""
    # What is left behind unlike WAYS is often the same: so there is far less to count.
    counts = {fars: 1}
    for _ in range(len(fars) // PLACES - 1):
        counts = counts_without_last(counts)
    # At the only crossing left one WAY, the OUTER one, makes two ROUNDS, the others one.
    return (MANY_WAYS - 1) * sum(counts.values())


def counts_without_last(counts):
    """The last crossing joined each WAY: a dict from FARS that are left to how often they come."""
    left = {}
    for fars, count in counts.items():
        for way in range(MANY_WAYS):
            behind = fars_without_last(fars, way)
            if behind is not None:
                left[behind] = left.get(behind, 0) + count
    return left


def fars_without_last(fars, way):
    """The FAR of each END but the last crossing's, through it by the WAY; None where a ROUND closes."""
    first = len(fars) - PLACES
    left = list(fars)
    for end in range(first, len(fars)):
        other = mate(end, way)
        if end < other:
            if left[end] == other:
                return None
            left[left[end]] = left[other]
            left[left[other]] = left[end]
    return tuple(left[:first])
