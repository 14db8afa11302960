"""YARDS spliced to one, and parted again at TWINS."""

from oneround.errors import BadTwins, OutOfPlace, TooMany
from oneround.kinds import is_below
from oneround.reaches import reached
from oneround.yards import MOST_CROSSINGS, PLACES, crossings, crossings_beside, need_yard


def spliced(yard, other, line, far_line):
    """The YARD of both, spliced at a LINE of each; the other one's crossings come behind."""
    ahead = crossings(yard)
    many = ahead + crossings(other)
    if many > MOST_CROSSINGS:
        raise TooMany(many)
    if not is_below(line, len(yard)) or not is_below(far_line, len(other)):
        raise OutOfPlace(())
    behind = [(PLACES * ahead + low, PLACES * ahead + high) for low, high in other]
    near_low, near_high = yard[line]
    far_low, far_high = behind[far_line]
    lines = lines_but(yard, (line,)) + lines_but(behind, (far_line,))
    return tuple(sorted(lines + [(near_low, far_low), (near_high, far_high)]))


def lines_but(lines, numbers):
    """All LINES but those of the numbers, in a list."""
    return [line for number, line in enumerate(lines) if number not in numbers]


def twins(yard):
    """All TWINS of a YARD: pairs of LINES' numbers, rising."""
    circles = circles_of_lines(need_yard(yard))
    told = []
    for line in range(len(yard)):
        for other in range(line + 1, len(yard)):
            if circles[line] == circles[other]:
                told.append((line, other))
    return tuple(told)


def circles_of_lines(yard):
    """For each LINE a number; two are alike just where the LINES are TWINS.

    Each LINE outside of the tree makes one circle with the tree. A LINE's number has a bit for each
    circle that the LINE is in. Without two LINES a YARD isn't WHOLE just where each circle has both
    of them or none; each LINE is in one circle at least, as no LINE alone holds a YARD together.
    """
    tree = tree_of(yard)
    in_tree = [step[0] for step in tree]
    circles = [0] * len(yard)
    # For each crossing: the circles that lead out of it and of those beyond it in the tree, together.
    loose = [0] * (len(yard) // 2)
    for line, (low, high) in enumerate(yard):
        if line not in in_tree:
            circles[line] = 1 << line
            loose[low // PLACES] ^= 1 << line
            loose[high // PLACES] ^= 1 << line
    for line, before, crossing in reversed(tree):
        circles[line] = loose[crossing]
        loose[before] ^= loose[crossing]
    return circles


def tree_of(yard):
    """A tree of LINES to all crossings, as rows (LINE, CROSSING, OTHER).

    By the LINE one comes from the crossing, 0 or one come to ahead, to the other one for the first time.
    """
    lines_at = [[] for _ in range(len(yard) // 2)]
    for line, (low, high) in enumerate(yard):
        lines_at[low // PLACES].append((line, high // PLACES))
        lines_at[high // PLACES].append((line, low // PLACES))
    come_to = [False] * len(lines_at)
    come_to[0] = True
    waiting = [0]
    tree = []
    while waiting:
        before = waiting.pop()
        for line, crossing in lines_at[before]:
            if not come_to[crossing]:
                come_to[crossing] = True
                waiting.append(crossing)
                tree.append((line, before, crossing))
    return tree


def parted(yard, pair):
    """The two parts of a YARD at TWINS: pairs of a YARD and of the numbers that its crossings had."""
    many = crossings(yard)
    if not is_pair_of_lines(pair, len(yard)):
        raise BadTwins(())
    stay = lines_but(yard, pair)
    with_first = reached(crossings_beside(stay, many), 0)
    if all(with_first):
        raise BadTwins(())
    line, other = pair
    cut = yard[line] + yard[other]
    first = [crossing for crossing in range(many) if with_first[crossing]]
    second = [crossing for crossing in range(many) if not with_first[crossing]]
    return (part_of(stay, cut, first), part_of(stay, cut, second))


def is_pair_of_lines(thing, many_lines):
    """Whether a thing is a pair of numbers of so many LINES, the lesser one ahead."""
    if not isinstance(thing, tuple) or len(thing) != 2:
        return False
    line, other = thing
    return is_below(line, many_lines) and is_below(other, many_lines) and line < other


def part_of(lines, cut, numbers):
    """The YARD of the crossings with the numbers, two of the ENDS that were cut in one LINE, and the numbers."""
    new = {crossing: number for number, crossing in enumerate(numbers)}
    loose = sorted([end for end in cut if end // PLACES in new])
    inside = [line for line in lines if line[0] // PLACES in new] + [tuple(loose)]
    called = [(called_anew(low, new), called_anew(high, new)) for low, high in inside]
    return (tuple(sorted(called)), tuple(numbers))


def called_anew(end, new):
    """An END by its crossing's new number."""
    return PLACES * new[end // PLACES] + end % PLACES
