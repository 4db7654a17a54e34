"""Layings: how many bridges each island has, whether all fits, and how it looks."""

from bridgeties.errors import BadLaying
from bridgeties.seas import ROW, WISH, crossings, islands, sights, water_cells

MOST_BRIDGES = 2

# The signs for one bridge and for two.
ALONG_A_ROW = "-="
FROM_ROW_TO_ROW = '|"'


def counts(sea, laying):
    check_laying(sea, laying)
    told = [0 for island in islands(sea)]
    for sight, bridges in zip(sights(sea), laying):
        for island in sight:
            told[island] += bridges
    return told


def together(sea, laying):
    check_laying(sea, laying)
    links = [sight for sight, bridges in zip(sights(sea), laying) if bridges > 0]
    return hang_together(len(islands(sea)), links)


def fits(sea, laying):
    wishes = [island[WISH] for island in islands(sea)]
    return counts(sea, laying) == wishes and keeps_apart(sea, laying) and together(sea, laying)


def drawn(sea, laying):
    check_laying(sea, laying)
    found = islands(sea)
    rows = [list(row) for row in sea]
    # Sight by sight, so that where two cross the later one's sign stands.
    for sight, bridges in zip(sights(sea), laying):
        if bridges > 0:
            sign = sign_of(found, sight, bridges)
            for row, place in water_cells(found, sight):
                rows[row][place] = sign
    return ["".join(row) for row in rows]


# The sights are asked for first: what is no sea is refused ahead of any laying.
def check_laying(sea, laying):
    many = len(sights(sea))
    if not isinstance(laying, list) or len(laying) != many:
        raise BadLaying(f"a laying of this sea is a list of {many} numbers")
    for bridges in laying:
        if not is_number_of_bridges(bridges):
            raise BadLaying(f"each number of a laying is from 0 to {MOST_BRIDGES}")


# To Python True and False are whole numbers too, here they are none.
def is_number_of_bridges(value):
    return isinstance(value, int) and not isinstance(value, bool) and 0 <= value <= MOST_BRIDGES


def keeps_apart(sea, laying):
    for number, other in crossings(sea):
        if laying[number] > 0 and laying[other] > 0:
            return False
    return True


# Each island begins as a group of its own, and each link makes two groups one.
def hang_together(many, links):
    groups = list(range(many))
    for one, other in links:
        kept = groups[one]
        lost = groups[other]
        groups = [kept if group == lost else group for group in groups]
    return len(set(groups)) == 1


def sign_of(found, sight, bridges):
    in_one_row = found[sight[0]][ROW] == found[sight[1]][ROW]
    signs = ALONG_A_ROW if in_one_row else FROM_ROW_TO_ROW
    return signs[bridges - 1]
