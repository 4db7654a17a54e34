"""Bounds: how few and how many bridges each sight may have, and how they narrow."""

from bridgeties.errors import BadBounds
from bridgeties.layings import MOST_BRIDGES
from bridgeties.seas import WISH, crossings, islands, sights

# Where the tuple (low, high) of a sight holds each of these.
LOW = 0
HIGH = 1


def narrowed(sea, bounds):
    check_bounds(sea, bounds)
    return narrow(wants(sea), crossings(sea), bounds)


# The sights are asked for first: what is no sea is refused ahead of any bounds.
def check_bounds(sea, bounds):
    many = len(sights(sea))
    if len(bounds) != many:
        raise BadBounds(f"bounds of this sea are a list of {many} tuples")
    for low, high in bounds:
        if not 0 <= low <= high <= MOST_BRIDGES:
            raise BadBounds(f"low and high are from 0 to {MOST_BRIDGES}, low not above high")


# For each island its wish and the numbers of its sights.
def wants(sea):
    pairs = sights(sea)
    told = []
    for one, island in enumerate(islands(sea)):
        numbers = [number for number, sight in enumerate(pairs) if one in sight]
        told.append((island[WISH], numbers))
    return told


# The rules only ever raise lows and lessen highs, so they end alike in whatever order,
# and what has become void stays so: it is enough to look once a round.
def narrow(wanted, crossed, bounds):
    before = None
    now = list(bounds)
    while now != before:
        if is_void(wanted, now):
            return None
        before = now
        now = by_crossings(crossed, by_islands(wanted, now))
    return now


def is_void(wanted, bounds):
    for low, high in bounds:
        if low > high:
            return True
    for wish, numbers in wanted:
        if not all_of(LOW, numbers, bounds) <= wish <= all_of(HIGH, numbers, bounds):
            return True
    return False


def all_of(end, numbers, bounds):
    return sum([bounds[number][end] for number in numbers])


def by_islands(wanted, bounds):
    now = list(bounds)
    for wish, numbers in wanted:
        lows = all_of(LOW, numbers, now)
        highs = all_of(HIGH, numbers, now)
        for number in numbers:
            low = now[number][LOW]
            high = now[number][HIGH]
            now[number] = (max(low, wish - (highs - high)), min(high, wish - (lows - low)))
    return now


def by_crossings(crossed, bounds):
    now = list(bounds)
    for one, other in crossed:
        if now[one][LOW] > 0:
            now[other] = without_bridges(now[other])
        if now[other][LOW] > 0:
            now[one] = without_bridges(now[one])
    return now


# A high that has come below nought in this round stays there: no rule makes one greater.
def without_bridges(bound):
    return (bound[LOW], min(bound[HIGH], 0))
