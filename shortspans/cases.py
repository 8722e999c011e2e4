"""Cases of facts that ranges may have, and the least range of a case."""

from shortspans.digits import FIGURES, behind, raised, worth
from shortspans.styles import MOST_ENDING


def shapes(second_length):
    """All lengths of first, lengths of second (this one), changed and near that ranges may have."""
    found = []
    for first_length in range(1, second_length + 1):
        same = first_length == second_length
        for change in range(1 if same else second_length, second_length + 1):
            # The difference is less than the base to the power of changed.
            for gap in range(change + 1):
                found.append((first_length, second_length, change, gap))
    return found


def alike_endings(base, many, texts):
    """All texts of so many digits, those that end with the same ones of some texts in one list."""
    endings = [""]
    for step in range(many):
        endings = [ending + figure for ending in endings for figure in FIGURES[:base]]
    alike = {}
    for ending in endings:
        alike.setdefault(tuple([ending.endswith(text) for text in texts]), []).append(ending)
    return list(alike.values())


def cases(base, second_length, texts):
    """All facts with this length of second, in lists of those that are alike to rules with these texts in "ends"."""
    endings = [alike_endings(base, many, texts) for many in range(1, MOST_ENDING + 1)]
    return [[(*shape, ending) for ending in alike]
            for shape in shapes(second_length) for alike in endings[min(shape[0], MOST_ENDING) - 1]]


def reach(base, gap):
    """The least and the greatest difference of numbers that are so near."""
    if gap == 0:
        return 1, 1
    return raised(base, gap - 1) + 1, raised(base, gap)


def bounds(base, facts, lowest):
    """What first is below, the least that second can be, and what it is below; lowest is the least first."""
    first_length, second_length, change, gap, ending = facts
    if first_length < second_length:
        return raised(base, first_length), raised(base, second_length - 1), raised(base, second_length)
    # A multiple of this power parts the two numbers. No range around a later one is less: moved down, it ends alike.
    cut = behind(lowest, 0, raised(base, change - 1))
    return cut, cut, behind(lowest, 0, raised(base, change))


def least_range(base, facts):
    """The least range with these facts, or None."""
    remainder, step = worth(base, facts[4]), raised(base, len(facts[4]))
    lowest = behind(raised(base, facts[0] - 1) - 1, remainder, step)
    if lowest >= raised(base, facts[0]):
        return None
    below, least, beyond = bounds(base, facts, lowest)
    closest, farthest = reach(base, facts[3])
    first = max(lowest, behind(least - farthest - 1, remainder, step))
    second = max(least, first + closest)
    return (first, second) if first < below and second < beyond else None
