import inspect
import random
import unittest

from bridgeties.bounds import narrowed
from bridgeties.errors import BadBounds, BadSea
from bridgeties.seas import crossings, sights
from tests.expected import (
    NO_SEAS,
    chance_bounds,
    expected_layings,
    expected_narrowed,
    laid_seas,
    narrowed_by,
    seas_of,
    single_rules,
)

# Sights 0 to 3 are (0, 1), (0, 2), (1, 3), (2, 3).
RING = [
    "2.2",
    "...",
    "2.2",
]
# Sights 0 to 7 are (0, 1), (0, 3), (1, 4), (2, 5), (3, 4), (3, 6), (4, 7), (6, 7); 3 and 4 cross.
LADDER = [
    "2..2",
    ".1..",
    "2..2",
    ".1..",
    "2..2",
]
# Sights 0 to 7 are (0, 1), (0, 6), (1, 7), (2, 3), (2, 4), (3, 5), (4, 5), (6, 7).
LATTICE = [
    ".22.",
    "2..2",
    "2..2",
    ".22.",
]
CROSSED = [
    ".1.",
    "2.2",
    ".1.",
]


def full(sea):
    return [(0, 2) for sight in sights(sea)]


def within(laying, bounds):
    return all(low <= number <= high for number, (low, high) in zip(laying, bounds))


class TheRuleOfIslands(unittest.TestCase):
    def test_a_low_rises(self):
        sea = ["3.3", "...", "3.3"]
        self.assertEqual(narrowed(sea, full(sea)), [(1, 2)] * 4)

    def test_a_high_falls(self):
        sea = ["1.1", "...", "1.1"]
        self.assertEqual(narrowed(sea, full(sea)), [(0, 1)] * 4)

    def test_both_where_an_island_has_one_sight(self):
        self.assertEqual(narrowed(["1.1"], [(0, 2)]), [(1, 1)])
        self.assertEqual(narrowed(["2.2"], [(0, 2)]), [(2, 2)])
        self.assertEqual(narrowed(["2", "2"], [(1, 2)]), [(2, 2)])

    def test_the_other_sights_of_the_island_count(self):
        sea = ["121", ".1."]
        self.assertEqual(sights(sea), [(0, 1), (1, 2), (1, 3)])
        self.assertIsNone(narrowed(sea, full(sea)))
        self.assertEqual(narrowed(["131", ".1."], full(sea)), [(1, 1)] * 3)

    def test_bounds_handed_in_count(self):
        self.assertEqual(narrowed(RING, [(1, 2), (0, 2), (0, 2), (0, 2)]), [(1, 2), (0, 1), (0, 1), (1, 2)])
        self.assertEqual(narrowed(RING, [(0, 1), (0, 2), (0, 2), (0, 2)]), [(0, 1), (1, 2), (1, 2), (0, 1)])
        self.assertEqual(narrowed(RING, [(1, 1), (0, 2), (0, 2), (0, 2)]), [(1, 1)] * 4)

    def test_it_goes_on_from_island_to_island(self):
        self.assertEqual(narrowed(["1.3.3.1"], [(0, 2)] * 3), [(1, 1), (2, 2), (1, 1)])
        self.assertEqual(narrowed(["1", "2", "2", "2", "1"], [(0, 2)] * 4), [(1, 1)] * 4)


class TheRuleOfCrossings(unittest.TestCase):
    def test_the_later_sight_loses_its_bridges(self):
        self.assertEqual(crossings(LADDER), [(3, 4)])
        bounds = full(LADDER)
        bounds[3] = (1, 1)
        expected = list(bounds)
        expected[4] = (0, 0)
        self.assertEqual(narrowed(LADDER, bounds), expected)

    def test_the_earlier_sight_loses_its_bridges(self):
        turned = ["2.2.2", ".1.1.", ".....", "2.2.2"]
        self.assertEqual(
            sights(turned),
            [(0, 1), (0, 5), (1, 2), (1, 6), (2, 7), (3, 4), (5, 6), (6, 7)],
        )
        self.assertEqual(crossings(turned), [(3, 5)])
        bounds = full(turned)
        bounds[5] = (1, 1)
        expected = list(bounds)
        expected[3] = (0, 0)
        self.assertEqual(narrowed(turned, bounds), expected)

    def test_a_low_of_nought_takes_nothing(self):
        self.assertEqual(crossings(LATTICE), [(1, 3), (1, 6), (2, 3), (2, 6)])
        self.assertEqual(narrowed(LATTICE, full(LATTICE)), full(LATTICE))

    def test_every_sight_that_crosses(self):
        bounds = full(LATTICE)
        bounds[1] = (1, 1)
        expected = [(1, 1), (1, 1), (1, 1), (0, 0), (2, 2), (2, 2), (0, 0), (1, 1)]
        self.assertEqual(narrowed(LATTICE, bounds), expected)


class TheRulesInTurn(unittest.TestCase):
    def test_an_island_makes_a_sight_sure_and_that_empties_another(self):
        expected = full(LADDER)
        expected[3] = (1, 1)
        expected[4] = (0, 0)
        self.assertEqual(narrowed(LADDER, full(LADDER)), expected)

    def test_an_emptied_sight_narrows_those_of_its_islands(self):
        sea = ["2..2", ".1..", "3..3", ".1..", "2..2"]
        self.assertEqual(
            narrowed(sea, full(sea)),
            [(0, 1), (1, 2), (1, 2), (1, 1), (0, 0), (1, 2), (1, 2), (0, 1)],
        )

    def test_an_emptied_sight_leads_to_nothing_within(self):
        self.assertIsNone(narrowed(["2..2", ".1..", "3..2", ".1..", "2..2"], full(LADDER)))


class NothingWithin(unittest.TestCase):
    def test_a_low_comes_above_a_high(self):
        self.assertIsNone(narrowed(["1.2"], [(0, 2)]))
        self.assertIsNone(narrowed(["2.1"], [(0, 2)]))
        self.assertIsNone(narrowed(["1.1.1"], [(0, 2), (0, 2)]))

    def test_two_sights_that_cross_and_both_must_have_bridges(self):
        self.assertIsNone(narrowed(CROSSED, [(0, 2), (0, 2)]))
        self.assertIsNone(narrowed(CROSSED, [(1, 1), (2, 2)]))

    def test_an_island_wishes_more_than_all_highs(self):
        self.assertIsNone(narrowed(["3.3"], [(0, 2)]))
        self.assertIsNone(narrowed(["8.8"], [(2, 2)]))
        self.assertIsNone(narrowed(["2.2"], [(0, 1)]))
        self.assertIsNone(narrowed(["1.1"], [(0, 0)]))
        self.assertIsNone(narrowed(RING, [(0, 0), (0, 1), (0, 2), (0, 2)]))

    def test_an_island_wishes_less_than_all_lows(self):
        self.assertIsNone(narrowed(["1.1"], [(2, 2)]))
        self.assertIsNone(narrowed(RING, [(2, 2), (1, 2), (0, 2), (0, 2)]))
        self.assertIsNone(narrowed(["1.1", "...", "1.1"], [(1, 1), (1, 1), (0, 2), (0, 2)]))

    def test_an_island_without_sights_wishes_more_than_it_can_have(self):
        for wish in "18":
            with self.subTest(wish=wish):
                self.assertIsNone(narrowed([wish], []))
        self.assertIsNone(narrowed(["1.", ".1"], []))
        self.assertIsNone(narrowed(["1.1.", "...1"], [(0, 2)]))


class WhatStays(unittest.TestCase):
    def test_bounds_that_no_rule_changes(self):
        for bounds in (full(RING), [(1, 1)] * 4, [(1, 2), (0, 1), (0, 1), (1, 2)]):
            with self.subTest(bounds=bounds):
                self.assertEqual(narrowed(RING, bounds), bounds)

    def test_narrowed_bounds_stay(self):
        chance = random.Random(11)
        changed = 0
        for sea in laid_seas(300, 10):
            for bounds in (full(sea), chance_bounds(chance, sea)):
                once = narrowed(sea, bounds)
                if once is not None:
                    self.assertEqual(narrowed(sea, once), once, (sea, bounds))
                    changed += once != bounds
        self.assertGreater(changed, 30)


class AgainstTheDocument(unittest.TestCase):
    def test_all_small_seas(self):
        for rows, signs in ((1, 4), (4, 1), (2, 2)):
            for sea in seas_of(rows, signs, ".1234"):
                self.assertEqual(narrowed(sea, full(sea)), expected_narrowed(sea, full(sea)), sea)

    def test_all_bounds_of_a_small_sea(self):
        every = [(low, high) for low in range(3) for high in range(low, 3)]
        for sea in (["122"], ["2.3.1"], ["3", "3", "2"], CROSSED):
            for one in every:
                for other in every:
                    bounds = [one, other]
                    self.assertEqual(narrowed(sea, bounds), expected_narrowed(sea, bounds), (sea, bounds))

    def test_the_end_is_the_same_in_whatever_order(self):
        chance = random.Random(12)
        ends = {True: 0, False: 0}
        for sea in laid_seas(200, 10):
            rules = single_rules(sea)
            for bounds in (full(sea), chance_bounds(chance, sea)):
                told = narrowed(sea, bounds)
                ends[told is None] += 1
                for order in (rules, rules[::-1], chance.sample(rules, len(rules))):
                    self.assertEqual(told, narrowed_by(sea, bounds, order), (sea, bounds))
        self.assertGreater(min(ends.values()), 30)

    def test_no_laying_that_fits_is_lost(self):
        chance = random.Random(13)
        kept = 0
        for sea in laid_seas(200, 6):
            if len(sights(sea)) > 5:
                continue
            for bounds in (full(sea), chance_bounds(chance, sea)):
                told = narrowed(sea, bounds)
                for laying in expected_layings(sea):
                    if within(laying, bounds):
                        self.assertTrue(told is not None and within(laying, told), (sea, bounds, laying))
                        kept += 1
        self.assertGreater(kept, 20)

    def test_kinds(self):
        told = narrowed(RING, full(RING))
        self.assertIs(type(told), list)
        for bound in told:
            self.assertIs(type(bound), tuple)
            self.assertEqual([type(end) for end in bound], [int, int])


class WrongInputs(unittest.TestCase):
    def refused(self, refusal, sea, bounds):
        with self.subTest(sea=sea, bounds=bounds):
            with self.assertRaises(refusal):
                narrowed(sea, bounds)

    def test_what_is_no_sea(self):
        for sea in NO_SEAS:
            self.refused(BadSea, sea, [])
            self.refused(BadSea, sea, [(0, 2)])

    def test_bad_sea_ahead_of_bad_bounds(self):
        for sea in NO_SEAS:
            self.refused(BadSea, sea, [(2, 0)])
            self.refused(BadSea, sea, [(-1, 3), (0, 9)])
            self.refused(BadSea, sea, [(0, 2)] * 30)

    def test_bounds_too_short(self):
        self.refused(BadBounds, RING, [])
        self.refused(BadBounds, RING, [(0, 2)] * 3)
        self.refused(BadBounds, ["1.1"], [])

    def test_bounds_too_long(self):
        self.refused(BadBounds, RING, [(0, 2)] * 5)
        self.refused(BadBounds, ["1"], [(0, 2)])
        self.refused(BadBounds, ["1.", ".1"], [(0, 0)])

    def test_a_number_below_nought_or_above_two(self):
        for wrong in ((-1, 2), (-1, -1), (0, 3), (2, 3), (3, 3), (-1, 3), (-100, 100)):
            for number in range(4):
                bounds = full(RING)
                bounds[number] = wrong
                self.refused(BadBounds, RING, bounds)

    def test_a_number_of_very_many_figures(self):
        for wrong in ((0, 10 ** 5000), (-(10 ** 5000), 0)):
            with self.assertRaises(BadBounds):
                narrowed(["1.1"], [wrong])

    def test_low_above_high(self):
        for wrong in ((1, 0), (2, 0), (2, 1)):
            for number in range(4):
                bounds = full(RING)
                bounds[number] = wrong
                self.refused(BadBounds, RING, bounds)

    def test_refused_also_where_nothing_is_within(self):
        self.refused(BadBounds, ["3.3"], [(0, 3)])
        self.refused(BadBounds, ["1.2"], [(2, 1)])
        self.refused(BadBounds, ["1"], [(2, 1)])

    def test_the_edges_are_taken(self):
        for bound in ((0, 0), (0, 1), (0, 2), (1, 1), (1, 2), (2, 2)):
            with self.subTest(bound=bound):
                expected = [(2, 2)] if bound[1] == 2 else None
                self.assertEqual(narrowed(["2.2"], [bound]), expected)


class TheAskersOwn(unittest.TestCase):
    def test_what_is_handed_in_stays_as_it_was(self):
        for sea in (RING, LADDER, CROSSED, ["1.1"], ["1"]):
            handed_sea, handed_bounds = list(sea), full(sea)
            narrowed(handed_sea, handed_bounds)
            self.assertEqual((handed_sea, handed_bounds), (sea, full(sea)))

    def test_what_is_refused_stays_as_it_was(self):
        for bounds in ([(0, 2)] * 3, [(0, 2)] * 3 + [(2, 1)], [(0, 3)] * 4):
            handed_sea, handed_bounds = list(RING), list(bounds)
            with self.assertRaises(BadBounds):
                narrowed(handed_sea, handed_bounds)
            self.assertEqual((handed_sea, handed_bounds), (RING, bounds))

    def test_what_is_told_is_a_list_of_its_own(self):
        for sea in (RING, LADDER, ["1.1"]):
            bounds = full(sea)
            first, second = narrowed(sea, bounds), narrowed(sea, bounds)
            settled = narrowed(sea, first)
            self.assertEqual(len({id(told) for told in (bounds, first, second, settled)}), 4)

    def test_what_is_told_may_be_changed(self):
        for sea in (RING, LADDER, ["1.1"]):
            bounds = full(sea)
            told = narrowed(sea, bounds)
            expected = list(told)
            told[0] = (7, 7)
            told.append("more")
            self.assertEqual(bounds, full(sea))
            self.assertEqual(narrowed(sea, bounds), expected)
            told.clear()
            self.assertEqual(narrowed(sea, bounds), expected)

    def test_what_was_handed_in_may_be_changed_later(self):
        sea, bounds = list(RING), full(RING)
        told = narrowed(sea, bounds)
        bounds[0] = (1, 1)
        self.assertEqual(told, [(0, 2)] * 4)
        self.assertEqual(narrowed(sea, bounds), [(1, 1)] * 4)
        sea[0] = "3.3"
        self.assertEqual(told, [(0, 2)] * 4)
        self.assertEqual(narrowed(sea, bounds), expected_narrowed(sea, bounds))


class Interface(unittest.TestCase):
    def test_arguments(self):
        self.assertEqual(list(inspect.signature(narrowed).parameters), ["sea", "bounds"])
        self.assertEqual(narrowed(sea=RING, bounds=full(RING)), full(RING))


if __name__ == "__main__":
    unittest.main()
