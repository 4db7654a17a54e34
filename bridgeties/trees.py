"""Trees of tries: what fits within bounds, found by trying number after number."""

from bridgeties.bounds import HIGH, LOW, check_bounds, narrow, wants
from bridgeties.layings import MOST_BRIDGES, hang_together
from bridgeties.seas import crossings, sights

NONE = "none"
APART = "apart"
LAID = "laid"
TRY = "try"


def tree(sea, bounds):
    check_bounds(sea, bounds)
    return grown(sights(sea), wants(sea), crossings(sea), bounds)


def layings(sea):
    bounds = [(0, MOST_BRIDGES) for sight in sights(sea)]
    return laid_leaves(tree(sea, bounds))


# What the rules need of the sea is handed down, so that it is read off only once.
def grown(pairs, wanted, crossed, bounds):
    now = narrow(wanted, crossed, bounds)
    if now is None:
        return (NONE,)
    links = [sight for sight, bound in zip(pairs, now) if bound[HIGH] > 0]
    if not hang_together(len(wanted), links):
        return (APART,)
    number = first_unsettled(now)
    if number is None:
        return (LAID, [low for low, high in now])
    tries = range_of(now[number])
    trees = [grown(pairs, wanted, crossed, settled(now, number, bridges)) for bridges in tries]
    return (TRY, pairs[number], trees)


def first_unsettled(bounds):
    for number, bound in enumerate(bounds):
        if bound[LOW] < bound[HIGH]:
            return number
    return None


def range_of(bound):
    return list(range(bound[LOW], bound[HIGH] + 1))


def settled(bounds, number, bridges):
    told = list(bounds)
    told[number] = (bridges, bridges)
    return told


# The sights ahead of a try are settled, and its numbers rise: so the leaves stand
# in the order of lists.
def laid_leaves(told):
    if told[0] == LAID:
        return [told[1]]
    leaves = []
    if told[0] == TRY:
        for branch in told[2]:
            leaves.extend(laid_leaves(branch))
    return leaves
