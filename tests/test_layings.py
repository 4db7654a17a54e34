import inspect
import unittest

from bridgeties.errors import BadLaying, BadSea
from bridgeties.layings import counts, drawn, fits, together
from bridgeties.seas import crossings, sights
from tests.expected import (
    NO_SEAS,
    all_layings,
    expected_counts,
    expected_drawn,
    expected_fits,
    expected_together,
    laid_seas,
    seas_of,
)

ASKED = (counts, together, fits, drawn)
TELLS_LISTS = (counts, drawn)

# Sights (0, 1), (0, 2), (1, 3), (2, 3).
RING = [
    "3.3",
    "...",
    "2.2",
]
# Sights (0, 3), (1, 2), which cross.
CROSSED = [
    ".1.",
    "2.2",
    ".1.",
]
# Sights (0, 1), (0, 2), (1, 4), (2, 3); the last two cross.
HOOK = [
    "22.",
    "2.1",
    ".1.",
]
ALONE = ["...", ".1.", "..."]


def asked_of(sea, laying):
    return [ask(sea, laying) for ask in ASKED]


class Counts(unittest.TestCase):
    def test_each_bridge_counts_at_both_ends(self):
        self.assertEqual(counts(RING, [2, 1, 0, 0]), [3, 2, 1, 0])
        self.assertEqual(counts(RING, [0, 0, 1, 2]), [0, 1, 2, 3])
        self.assertEqual(counts(RING, [2, 1, 1, 1]), [3, 3, 2, 2])

    def test_no_bridges_and_all_bridges(self):
        self.assertEqual(counts(RING, [0, 0, 0, 0]), [0, 0, 0, 0])
        self.assertEqual(counts(RING, [2, 2, 2, 2]), [4, 4, 4, 4])

    def test_the_wishes_do_not_matter(self):
        self.assertEqual(counts(["8.1"], [1]), [1, 1])

    def test_sights_that_cross_count_both(self):
        self.assertEqual(counts(CROSSED, [1, 2]), [1, 2, 2, 1])

    def test_an_island_alone_has_none(self):
        self.assertEqual(counts(ALONE, []), [0])


class Together(unittest.TestCase):
    def test_a_way_from_each_to_each(self):
        self.assertIs(together(RING, [1, 1, 1, 1]), True)
        self.assertIs(together(RING, [0, 1, 2, 1]), True)
        self.assertIs(together(RING, [2, 2, 1, 0]), True)
        self.assertIs(together(["1.2.1"], [1, 2]), True)

    def test_no_way_between_some(self):
        self.assertIs(together(RING, [0, 0, 0, 0]), False)
        self.assertIs(together(RING, [2, 0, 0, 2]), False)
        self.assertIs(together(RING, [0, 1, 1, 0]), False)
        self.assertIs(together(RING, [1, 1, 0, 0]), False)
        self.assertIs(together(["1.2.1"], [1, 0]), False)
        self.assertIs(together(["1.2.1"], [0, 1]), False)

    def test_no_way_leads_over_at_a_crossing(self):
        self.assertIs(together(CROSSED, [1, 2]), False)

    def test_sights_that_cross_both_carry(self):
        self.assertIs(together(HOOK, [1, 1, 1, 1]), True)

    def test_the_wishes_do_not_matter(self):
        self.assertIs(together(["8.1"], [1]), True)

    def test_an_island_alone_hangs_together_with_itself(self):
        self.assertIs(together(ALONE, []), True)
        self.assertIs(together(["8"], []), True)

    def test_islands_that_see_nothing(self):
        self.assertIs(together(["1.", ".1"], []), False)


class Fits(unittest.TestCase):
    def test_a_laying_that_fits(self):
        self.assertIs(fits(RING, [2, 1, 1, 1]), True)
        self.assertIs(fits(["1.2.1"], [1, 1]), True)
        self.assertIs(fits(["11"], [1]), True)

    def test_a_wrong_number_at_an_island(self):
        self.assertIs(fits(["1.2.1"], [1, 2]), False)
        for wish in "124":
            sea = [RING[0], RING[1], wish + ".2"]
            with self.subTest(sea=sea):
                self.assertIs(fits(sea, [2, 1, 1, 1]), wish == "2")

    def test_islands_that_do_not_hang_together(self):
        sea = ["2.2", "...", "2.2"]
        self.assertEqual(counts(sea, [2, 0, 0, 2]), [2, 2, 2, 2])
        self.assertIs(fits(sea, [2, 0, 0, 2]), False)
        self.assertIs(fits(sea, [0, 2, 2, 0]), False)
        self.assertIs(fits(sea, [1, 1, 1, 1]), True)

    def test_two_sights_that_cross_and_both_have_bridges(self):
        self.assertEqual(crossings(HOOK), [(2, 3)])
        self.assertEqual(counts(HOOK, [1, 1, 1, 1]), [2, 2, 2, 1, 1])
        self.assertIs(together(HOOK, [1, 1, 1, 1]), True)
        self.assertIs(fits(HOOK, [1, 1, 1, 1]), False)

    def test_one_of_two_sights_that_cross(self):
        sea = [".23", "2.3", "343"]
        self.assertEqual(crossings(sea), [(1, 3)])
        self.assertIs(fits(sea, [1, 1, 2, 0, 2, 1, 1, 2]), True)
        self.assertIs(fits(sea, [2, 0, 1, 1, 1, 1, 2, 2]), True)

    def test_an_island_alone_wishes_what_it_cannot_have(self):
        self.assertIs(fits(ALONE, []), False)


class Drawn(unittest.TestCase):
    def test_one_bridge_and_two_along_a_row(self):
        self.assertEqual(drawn(["1..3.2"], [1, 2]), ["1--3=2"])
        self.assertEqual(drawn(["1..3.2"], [2, 1]), ["1==3-2"])

    def test_one_bridge_and_two_from_row_to_row(self):
        self.assertEqual(drawn(["1", ".", ".", "3", ".", "2"], [1, 2]), ["1", "|", "|", "3", '"', "2"])
        self.assertEqual(drawn(["1", ".", ".", "3", ".", "2"], [2, 1]), ["1", '"', '"', "3", "|", "2"])

    def test_all_four_signs(self):
        self.assertEqual(drawn(RING, [2, 1, 2, 1]), ["3=3", '|."', "2-2"])

    def test_without_bridges_the_water_stays(self):
        self.assertEqual(drawn(RING, [0, 0, 0, 0]), RING)
        self.assertEqual(drawn(RING, [0, 1, 0, 0]), ["3.3", "|..", "2.2"])
        self.assertEqual(drawn(ALONE, []), ALONE)

    # The later one is the one along the row: the other begins in a row above.
    def test_where_two_cross_the_later_sights_sign_stands(self):
        self.assertEqual(sights(CROSSED), [(0, 3), (1, 2)])
        self.assertEqual(drawn(CROSSED, [1, 2]), [".1.", "2=2", ".1."])
        self.assertEqual(drawn(CROSSED, [2, 1]), [".1.", "2-2", ".1."])
        sea = ["1...1", "..2..", ".....", "3...2", "..1.."]
        self.assertEqual(sights(sea), [(0, 1), (0, 3), (1, 4), (2, 5), (3, 4)])
        self.assertEqual(drawn(sea, [1, 2, 0, 1, 2]), ["1---1", '".2..', '".|..', "3===2", "..1.."])
        self.assertEqual(drawn(sea, [0, 0, 0, 2, 1]), ["1...1", "..2..", '.."..', "3---2", "..1.."])

    def test_where_two_cross_and_one_has_no_bridges_the_other_stands(self):
        self.assertEqual(drawn(CROSSED, [2, 0]), [".1.", '2"2', ".1."])
        self.assertEqual(drawn(CROSSED, [0, 2]), [".1.", "2=2", ".1."])

    def test_a_sight_without_water_draws_nothing(self):
        self.assertEqual(drawn(["22", "22"], [2, 1, 1, 2]), ["22", "22"])

    def test_kinds(self):
        told = drawn(RING, [2, 1, 1, 1])
        self.assertIs(type(told), list)
        self.assertEqual([type(row) for row in told], [str, str, str])
        told = counts(RING, [2, 1, 1, 1])
        self.assertIs(type(told), list)
        self.assertEqual([type(count) for count in told], [int] * 4)


class AgainstTheDocument(unittest.TestCase):
    def check(self, sea):
        fitting = 0
        for laying in all_layings(sea):
            expected = [
                expected_counts(sea, laying),
                expected_together(sea, laying),
                expected_fits(sea, laying),
                expected_drawn(sea, laying),
            ]
            self.assertEqual(asked_of(sea, laying), expected, (sea, laying))
            fitting += expected[2]
        return fitting

    def test_all_small_seas(self):
        for rows, signs in ((1, 5), (5, 1), (2, 3), (3, 2)):
            for sea in seas_of(rows, signs, ".2"):
                if len(sights(sea)) <= 4:
                    self.check(sea)

    def test_seas_of_every_size(self):
        fitting = [self.check(sea) for sea in laid_seas(200, 6) if len(sights(sea)) <= 4]
        self.assertGreater(sum(fitting), 10)


class WrongInputs(unittest.TestCase):
    def refused(self, refusal, sea, laying):
        for ask in ASKED:
            with self.subTest(ask=ask.__name__, sea=sea, laying=laying):
                with self.assertRaises(refusal):
                    ask(sea, laying)

    def test_what_is_no_sea(self):
        for sea in NO_SEAS:
            self.refused(BadSea, sea, [])
            self.refused(BadSea, sea, [1])

    def test_bad_sea_ahead_of_bad_laying(self):
        for sea in NO_SEAS:
            self.refused(BadSea, sea, [3])
            self.refused(BadSea, sea, [-1, 7, 9])
            self.refused(BadSea, sea, [0] * 30)

    def test_a_laying_too_short(self):
        self.refused(BadLaying, RING, [])
        self.refused(BadLaying, RING, [2, 1, 1])
        self.refused(BadLaying, ["1.1"], [])

    def test_a_laying_too_long(self):
        self.refused(BadLaying, RING, [2, 1, 1, 1, 0])
        self.refused(BadLaying, ["1.1"], [1, 1])
        self.refused(BadLaying, ALONE, [0])
        self.refused(BadLaying, ["1.", ".1"], [0])

    def test_a_number_below_nought_or_above_two(self):
        for number in (-1, 3, -2, 4, -100, 100, 10 ** 5000, -(10 ** 5000)):
            for place in range(4):
                laying = [2, 1, 1, 1]
                laying[place] = number
                for ask in ASKED:
                    with self.assertRaises(BadLaying):
                        ask(RING, laying)

    def test_what_is_no_list_of_whole_numbers(self):
        self.refused(BadLaying, ["1.1"], (1,))
        self.refused(BadLaying, ["1.1"], None)
        self.refused(BadLaying, ["1.1"], [True])
        self.refused(BadLaying, ["1.1"], [False])
        self.refused(BadLaying, ["1.1"], ["1"])
        self.refused(BadLaying, ["1.1"], [None])

    def test_the_edges_are_taken(self):
        for laying in ([0], [1], [2]):
            for ask in ASKED:
                ask(["1.1"], laying)


class TheAskersOwn(unittest.TestCase):
    def test_what_is_handed_in_stays_as_it_was(self):
        for sea, laying in ((RING, [2, 1, 1, 1]), (CROSSED, [1, 2]), (HOOK, [0, 0, 0, 0]), (ALONE, [])):
            handed_sea, handed_laying = list(sea), list(laying)
            asked_of(handed_sea, handed_laying)
            self.assertEqual((handed_sea, handed_laying), (sea, laying))

    def test_what_is_refused_stays_as_it_was(self):
        for laying in ([], [1, 1, 1, 3], [1, 1, 1, 1, 1], [-1, 1, 1, 1]):
            handed_sea, handed_laying = list(RING), list(laying)
            for ask in ASKED:
                with self.assertRaises(BadLaying):
                    ask(handed_sea, handed_laying)
            self.assertEqual((handed_sea, handed_laying), (RING, laying))

    def test_what_is_told_may_be_changed(self):
        for sea, laying in ((RING, [2, 1, 1, 1]), (RING, [0, 0, 0, 0]), (ALONE, [])):
            expected = asked_of(sea, laying)
            for ask in TELLS_LISTS:
                told = ask(sea, laying)
                told[0] = "other"
                told.append("more")
                self.assertEqual(asked_of(sea, laying), expected)
                told.clear()
                self.assertEqual(asked_of(sea, laying), expected)

    def test_no_list_told_is_another_or_one_handed_in(self):
        for sea, laying in ((RING, [2, 1, 1, 1]), (RING, [0, 0, 0, 0]), (ALONE, [])):
            told = [ask(sea, laying) for ask in TELLS_LISTS + TELLS_LISTS]
            met = [sea, laying] + told
            self.assertEqual(len({id(answer) for answer in met}), len(met))

    def test_what_was_handed_in_may_be_changed_later(self):
        sea, laying = list(RING), [2, 1, 1, 1]
        told = asked_of(sea, laying)
        laying[0] = 0
        self.assertEqual(told, [[3, 3, 2, 2], True, True, ["3=3", "|.|", "2-2"]])
        self.assertEqual(asked_of(sea, laying), [[1, 1, 2, 2], True, False, ["3.3", "|.|", "2-2"]])
        sea[0] = "1.1"
        self.assertEqual(asked_of(sea, laying), [[1, 1, 2, 2], True, True, ["1.1", "|.|", "2-2"]])


class Interface(unittest.TestCase):
    def test_arguments(self):
        for ask in ASKED:
            with self.subTest(ask=ask.__name__):
                self.assertEqual(list(inspect.signature(ask).parameters), ["sea", "laying"])
                self.assertEqual(ask(sea=RING, laying=[2, 1, 1, 1]), ask(RING, [2, 1, 1, 1]))


if __name__ == "__main__":
    unittest.main()
