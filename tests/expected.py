"""What the document says, written out once more with nothing of the package in it:
cell by cell, laying by laying, one rule at one sight at a time."""

import itertools
import random

# One list of texts for each way of being no sea.
NO_SEAS = (
    [],
    [""],
    ["1"] + ["."] * 7,
    ["1......."],
    ["1.", "1"],
    ["1", "1."],
    ["."],
    ["111111", "11111."],
    ["0.1"],
    ["9.1"],
    ["1-1"],
    ["1 1"],
    ["\u0661.1"],
)


def expected_islands(sea):
    cells = itertools.product(range(len(sea)), range(len(sea[0])))
    return [(row, place, int(sea[row][place])) for row, place in cells if sea[row][place] != "."]


def cells_between(one, other):
    rows = range(min(one[0], other[0]), max(one[0], other[0]) + 1)
    places = range(min(one[1], other[1]), max(one[1], other[1]) + 1)
    return [cell for cell in itertools.product(rows, places) if cell not in (one[:2], other[:2])]


def expected_sights(sea):
    found = expected_islands(sea)
    told = []
    for one, other in itertools.combinations(range(len(found)), 2):
        in_line = found[one][0] == found[other][0] or found[one][1] == found[other][1]
        if in_line and all(sea[row][place] == "." for row, place in cells_between(found[one], found[other])):
            told.append((one, other))
    return sorted(told)


def expected_crossings(sea):
    found = expected_islands(sea)
    told = []
    for (number, sight), (other_number, other) in itertools.combinations(enumerate(expected_sights(sea)), 2):
        along = [found[one][0] == found[two][0] for one, two in (sight, other)]
        water = [set(cells_between(found[one], found[two])) for one, two in (sight, other)]
        if along[0] != along[1] and water[0] & water[1]:
            told.append((number, other_number))
    return sorted(told)


def seas_of(rows, signs, figures):
    for text in itertools.product(figures, repeat=rows * signs):
        sea = ["".join(text[row * signs:(row + 1) * signs]) for row in range(rows)]
        if 1 <= sum(sign != "." for sign in text) <= 10:
            yield sea


# Seas whose wishes come from a chance laying, so that many of them have one that fits;
# every other sea has sights that cross. The same seas each time.
def laid_seas(many, most_islands):
    chance = random.Random(many * 100 + most_islands)
    seas = []
    while len(seas) < many:
        bare = bare_sea(chance, most_islands)
        if len(seas) % 2 and not expected_crossings(bare):
            continue
        wishes = expected_counts(bare, chance_laying(chance, bare))
        if chance.random() < 0.2:
            wishes[chance.randrange(len(wishes))] += 1
        seas.append(with_wishes(bare, wishes))
    return seas


def bare_sea(chance, most_islands):
    rows, signs = chance.randint(1, 7), chance.randint(1, 7)
    cells = list(itertools.product(range(rows), range(signs)))
    stand = chance.sample(cells, min(len(cells), chance.randint(1, most_islands)))
    return ["".join("1" if (row, place) in stand else "." for place in range(signs)) for row in range(rows)]


def chance_laying(chance, sea):
    laying = [chance.choice((0, 1, 1, 2)) for sight in expected_sights(sea)]
    for number, other in expected_crossings(sea):
        if laying[number] and laying[other]:
            laying[chance.choice((number, other))] = 0
    return laying


# A wish of nought is no island's: it becomes one.
def with_wishes(bare, wishes):
    figures = iter([str(min(max(wish, 1), 8)) for wish in wishes])
    return ["".join("." if sign == "." else next(figures) for sign in row) for row in bare]


def chance_bounds(chance, sea):
    every = [(low, high) for low in range(3) for high in range(low, 3)]
    return [chance.choice(every + [(0, 2)] * 6) for sight in expected_sights(sea)]


def all_layings(sea):
    return [list(laying) for laying in itertools.product((0, 1, 2), repeat=len(expected_sights(sea)))]


def expected_counts(sea, laying):
    pairs = expected_sights(sea)
    return [
        sum(laying[number] for number, sight in enumerate(pairs) if island in sight)
        for island in range(len(expected_islands(sea)))
    ]


def expected_together(sea, laying):
    ways = [sight for number, sight in enumerate(expected_sights(sea)) if laying[number] > 0]
    return all_reached(len(expected_islands(sea)), ways)


def all_reached(many, ways):
    reached = {0}
    while True:
        more = {island for way in ways if reached & set(way) for island in way} - reached
        if not more:
            return len(reached) == many
        reached |= more


def expected_fits(sea, laying):
    wishes = [wish for row, place, wish in expected_islands(sea)]
    crossed = [pair for pair in expected_crossings(sea) if all(laying[number] > 0 for number in pair)]
    return expected_counts(sea, laying) == wishes and not crossed and expected_together(sea, laying)


def expected_layings(sea):
    return [laying for laying in all_layings(sea) if expected_fits(sea, laying)]


def expected_drawn(sea, laying):
    return ["".join(sign_at(sea, laying, row, place) for place in range(len(sea[0]))) for row in range(len(sea))]


def sign_at(sea, laying, row, place):
    found = expected_islands(sea)
    sign = sea[row][place]
    for number, (one, other) in enumerate(expected_sights(sea)):
        if laying[number] and (row, place) in cells_between(found[one], found[other]):
            signs = {1: "-", 2: "="} if found[one][0] == found[other][0] else {1: "|", 2: '"'}
            sign = signs[laying[number]]
    return sign


# The rules of narrowing one by one: what each would change, at which sight.
def single_rules(sea):
    rules = []
    for island, (row, place, wish) in enumerate(expected_islands(sea)):
        here = [number for number, sight in enumerate(expected_sights(sea)) if island in sight]
        for number in here:
            others = [other for other in here if other != number]
            rules.append(("low", number, wish, others))
            rules.append(("high", number, wish, others))
    for one, other in expected_crossings(sea):
        rules.append(("cross", one, 0, [other]))
        rules.append(("cross", other, 0, [one]))
    return rules


def by_rule(rule, bounds):
    kind, number, wish, others = rule
    low, high = bounds[number]
    if kind == "low":
        low = max(low, wish - sum(bounds[other][1] for other in others))
    elif kind == "high":
        high = min(high, wish - sum(bounds[other][0] for other in others))
    elif bounds[others[0]][0] > 0:
        high = 0
    return bounds[:number] + [(low, high)] + bounds[number + 1:]


def nothing_within(sea, bounds):
    if any(low > high for low, high in bounds):
        return True
    lows = expected_counts(sea, [low for low, high in bounds])
    highs = expected_counts(sea, [high for low, high in bounds])
    wishes = [wish for row, place, wish in expected_islands(sea)]
    return any(wish > high or wish < low for wish, low, high in zip(wishes, lows, highs))


# One rule at a time: the first of these, in this order, that changes something.
def narrowed_by(sea, bounds, rules):
    now = list(bounds)
    while not nothing_within(sea, now):
        changes = (changed for changed in (by_rule(rule, now) for rule in rules) if changed != now)
        changed = next(changes, None)
        if changed is None:
            return now
        now = changed
    return None


def expected_narrowed(sea, bounds):
    return narrowed_by(sea, bounds, single_rules(sea))


def expected_tree(sea, bounds):
    now = expected_narrowed(sea, bounds)
    if now is None:
        return ("none",)
    pairs = expected_sights(sea)
    ways = [sight for sight, (low, high) in zip(pairs, now) if high > 0]
    if not all_reached(len(expected_islands(sea)), ways):
        return ("apart",)
    wide = [number for number, (low, high) in enumerate(now) if low < high]
    if not wide:
        return ("laid", [low for low, high in now])
    first = wide[0]
    low, high = now[first]
    trees = [
        expected_tree(sea, now[:first] + [(number, number)] + now[first + 1:]) for number in range(low, high + 1)
    ]
    return ("try", pairs[first], trees)
