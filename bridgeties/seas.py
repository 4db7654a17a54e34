"""Seas: their islands, the sights between these, and which sights cross."""

from bridgeties.errors import BadSea

WATER = "."
WISHES = "12345678"
MOST_ROWS = 7
MOST_SIGNS = 7
MOST_ISLANDS = 10

# Where an island's tuple (row, place, wish) holds each of these.
ROW = 0
PLACE = 1
WISH = 2


def islands(sea):
    check_lengths(sea)
    check_signs(sea)
    found = islands_of_rows(sea)
    if not 1 <= len(found) <= MOST_ISLANDS:
        raise BadSea(f"a sea has 1 to {MOST_ISLANDS} islands")
    return found


def sights(sea):
    return sights_between(islands(sea))


def crossings(sea):
    found = islands(sea)
    pairs = sights_between(found)
    told = []
    for number in range(len(pairs)):
        for other in range(number + 1, len(pairs)):
            if cross(found, pairs[number], pairs[other]):
                told.append((number, other))
    return told


def check_lengths(sea):
    if not 1 <= len(sea) <= MOST_ROWS:
        raise BadSea(f"a sea has 1 to {MOST_ROWS} rows")
    length = len(sea[0])
    if not 1 <= length <= MOST_SIGNS:
        raise BadSea(f"a row has 1 to {MOST_SIGNS} signs")
    for row in sea:
        if len(row) != length:
            raise BadSea("the rows of a sea are of one length")


def check_signs(sea):
    for row in sea:
        for sign in row:
            if sign != WATER and sign not in WISHES:
                raise BadSea(f"{sign!r} is neither water nor an island")


# The rows are checked before: every sign that isn't water is a wish.
def islands_of_rows(sea):
    found = []
    for row, signs in enumerate(sea):
        for place, sign in enumerate(signs):
            if sign != WATER:
                found.append((row, place, int(sign)))
    return found


# An island's neighbour in its row has a lesser number than the one in its place,
# which stands in a later row: so the sights come out rising.
def sights_between(found):
    pairs = []
    for one in range(len(found)):
        for axis in (ROW, PLACE):
            other = next_along(found, one, axis)
            if other is not None:
                pairs.append((one, other))
    return pairs


# Numbers rise along a row and along a place, so the first island found is the
# nearest one: it hides all that stand behind it.
def next_along(found, one, axis):
    for other in range(one + 1, len(found)):
        if found[other][axis] == found[one][axis]:
            return other
    return None


# Two sights that go the same way have no cell of water in common, as no island
# is within a sight: so a common cell tells that they go different ways.
def cross(found, sight, other):
    cells = water_cells(found, other)
    common = [cell for cell in water_cells(found, sight) if cell in cells]
    return len(common) > 0


def water_cells(found, sight):
    start = found[sight[0]]
    end = found[sight[1]]
    if start[ROW] == end[ROW]:
        return [(start[ROW], place) for place in range(start[PLACE] + 1, end[PLACE])]
    return [(row, start[PLACE]) for row in range(start[ROW] + 1, end[ROW])]
