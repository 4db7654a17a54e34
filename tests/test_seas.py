import inspect
import unittest

from bridgeties.errors import BadSea
from bridgeties.seas import crossings, islands, sights
from tests.expected import expected_crossings, expected_islands, expected_sights, seas_of

ASKED = (islands, sights, crossings)

CROSSED = [
    ".1.",
    "2.2",
    ".1.",
]
LATTICE = [
    ".12.",
    "3..4",
    "5..6",
    ".78.",
]
FULL = [
    "1..2..3",
    ".......",
    "...4...",
    "5.....6",
    ".......",
    "......7",
    "8..1..2",
]


def asked_of(sea):
    return [ask(sea) for ask in ASKED]


class Islands(unittest.TestCase):
    def test_row_by_row_from_left_to_right(self):
        self.assertEqual(islands(CROSSED), [(0, 1, 1), (1, 0, 2), (1, 2, 2), (2, 1, 1)])
        self.assertEqual(
            islands(LATTICE),
            [(0, 1, 1), (0, 2, 2), (1, 0, 3), (1, 3, 4), (2, 0, 5), (2, 3, 6), (3, 1, 7), (3, 2, 8)],
        )

    def test_row_comes_first_and_place_second(self):
        self.assertEqual(islands(["....", "..5.", "...."]), [(1, 2, 5)])

    def test_each_wish(self):
        for wish in range(1, 9):
            with self.subTest(wish=wish):
                self.assertEqual(islands([f".{wish}"]), [(0, 1, wish)])

    def test_kinds(self):
        told = islands(LATTICE)
        self.assertIs(type(told), list)
        for island in told:
            self.assertIs(type(island), tuple)
            self.assertEqual([type(value) for value in island], [int, int, int])


class Sights(unittest.TestCase):
    def test_along_rows_and_from_row_to_row(self):
        self.assertEqual(sights(["2.2", "...", "2.2"]), [(0, 1), (0, 2), (1, 3), (2, 3)])
        self.assertEqual(
            sights(LATTICE),
            [(0, 1), (0, 6), (1, 7), (2, 3), (2, 4), (3, 5), (4, 5), (6, 7)],
        )

    def test_an_island_between_hides_the_one_behind(self):
        self.assertEqual(sights(["1.2.1"]), [(0, 1), (1, 2)])
        self.assertEqual(sights(["1", ".", "2", ".", "1"]), [(0, 1), (1, 2)])
        self.assertEqual(sights(["121"]), [(0, 1), (1, 2)])
        self.assertEqual(sights(["1", "2", "1"]), [(0, 1), (1, 2)])

    def test_islands_out_of_line_see_nothing(self):
        self.assertEqual(sights(["1..", ".1.", "..1"]), [])

    def test_islands_in_one_place_with_others_numbered_between(self):
        self.assertEqual(sights(["1..", ".1.", "1.."]), [(0, 2)])

    def test_the_row_before_the_place_for_one_island(self):
        self.assertEqual(sights(["2..1", "....", "1..."]), [(0, 1), (0, 2)])

    def test_next_to_one_another_without_water(self):
        self.assertEqual(sights(["11"]), [(0, 1)])
        self.assertEqual(sights(["1", "1"]), [(0, 1)])
        self.assertEqual(sights(["22", "22"]), [(0, 1), (0, 2), (1, 3), (2, 3)])

    def test_kinds(self):
        told = sights(LATTICE)
        self.assertIs(type(told), list)
        for sight in told:
            self.assertIs(type(sight), tuple)
            self.assertEqual([type(value) for value in sight], [int, int])


class Crossings(unittest.TestCase):
    def test_two_that_cross(self):
        self.assertEqual(sights(CROSSED), [(0, 3), (1, 2)])
        self.assertEqual(crossings(CROSSED), [(0, 1)])

    def test_rising_with_the_lesser_number_first(self):
        self.assertEqual(crossings(LATTICE), [(1, 3), (1, 6), (2, 3), (2, 6)])

    def test_sights_that_meet_at_an_island_do_not_cross(self):
        self.assertEqual(crossings(["2.2", "...", "2.2"]), [])
        self.assertEqual(crossings(["..1..", ".....", "1.4.1", ".....", "..1.."]), [])

    def test_sights_side_by_side_do_not_cross(self):
        self.assertEqual(crossings(["1.1", "1.1"]), [])
        self.assertEqual(crossings(["11", "..", "11"]), [])
        self.assertEqual(crossings(["1..1", "....", "1..1"]), [])

    def test_sights_in_one_line_do_not_cross(self):
        self.assertEqual(crossings(["1.2.1"]), [])
        self.assertEqual(crossings(["1", ".", "2", ".", "1"]), [])

    def test_a_sight_that_ends_ahead_of_another_does_not_cross_it(self):
        self.assertEqual(sights(["..1.", "..1.", "1..1"]), [(0, 1), (2, 3)])
        self.assertEqual(crossings(["..1.", "..1.", "1..1"]), [])
        self.assertEqual(crossings(["1..", "..1", "...", "1.1"]), [])

    def test_sights_without_water_cross_nothing(self):
        self.assertEqual(crossings(["22", "22"]), [])
        self.assertEqual(crossings([".1.", "141", ".1."]), [])

    def test_kinds(self):
        told = crossings(LATTICE)
        self.assertIs(type(told), list)
        for pair in told:
            self.assertIs(type(pair), tuple)
            self.assertEqual([type(value) for value in pair], [int, int])


class AgainstTheDocument(unittest.TestCase):
    def check(self, sea):
        told = asked_of(sea)
        expected = [expected_islands(sea), expected_sights(sea), expected_crossings(sea)]
        self.assertEqual(told, expected, sea)

    def test_all_small_seas(self):
        for rows, signs in ((1, 7), (7, 1), (2, 5), (3, 4), (4, 3)):
            for sea in seas_of(rows, signs, ".8"):
                self.check(sea)

    def test_all_wishes_in_a_small_sea(self):
        for sea in seas_of(2, 2, ".12345678"):
            self.check(sea)

    def test_wide_seas(self):
        seen = 0
        for step in range(5, 30):
            for first in range(step):
                signs = ["." for cell in range(49)]
                for cell in range(first, 49, step):
                    signs[cell] = str(cell % 8 + 1)
                sea = ["".join(signs[row * 7:row * 7 + 7]) for row in range(7)]
                if sum(sign != "." for sign in signs) <= 10:
                    self.check(sea)
                    seen += len(crossings(sea)) > 0
        self.assertGreater(seen, 0)

    def test_the_full_sea(self):
        self.check(FULL)


class Edges(unittest.TestCase):
    def test_the_least_sea(self):
        for wish in "18":
            with self.subTest(wish=wish):
                self.assertEqual(asked_of([wish]), [[(0, 0, int(wish))], [], []])

    def test_seven_rows_and_seven_signs(self):
        self.assertEqual(
            asked_of(["1.....8"]), [[(0, 0, 1), (0, 6, 8)], [(0, 1)], []],
        )
        self.assertEqual(
            asked_of(["1", ".", ".", ".", ".", ".", "8"]), [[(0, 0, 1), (6, 0, 8)], [(0, 1)], []],
        )
        corners = ["1.....1", ".......", ".......", ".......", ".......", ".......", "1.....1"]
        self.assertEqual(sights(corners), [(0, 1), (0, 2), (1, 3), (2, 3)])

    def test_one_island(self):
        self.assertEqual(asked_of(["...", ".3.", "..."]), [[(1, 1, 3)], [], []])

    def test_ten_islands_of_a_sea_of_full_size(self):
        self.assertEqual(len(islands(FULL)), 10)
        self.assertEqual(
            sights(FULL),
            [(0, 1), (0, 4), (1, 2), (1, 3), (2, 5), (3, 8), (4, 5), (4, 7), (5, 6), (6, 9), (7, 8), (8, 9)],
        )
        self.assertEqual(crossings(FULL), [(5, 6)])

    def test_ten_islands_without_water(self):
        self.assertEqual(
            sights(["12345", "67812"]),
            [(0, 1), (0, 5), (1, 2), (1, 6), (2, 3), (2, 7), (3, 4), (3, 8), (4, 9), (5, 6), (6, 7), (7, 8), (8, 9)],
        )
        self.assertEqual(crossings(["12345", "67812"]), [])


class WrongSeas(unittest.TestCase):
    def refused(self, sea):
        for ask in ASKED:
            with self.subTest(ask=ask.__name__, sea=sea):
                with self.assertRaises(BadSea):
                    ask(sea)

    def test_number_of_rows(self):
        self.refused([])
        self.refused(["1"] + ["."] * 7)
        self.refused(["1......"] * 8)
        self.refused(["1"] + ["."] * 40)

    def test_lengths_of_rows(self):
        self.refused([""])
        self.refused(["", "", ""])
        self.refused(["1......."])
        self.refused(["........", "1......."])
        self.refused(["1" + "." * 40])

    def test_rows_of_unlike_lengths(self):
        self.refused(["1.", "1"])
        self.refused(["1", "1."])
        self.refused(["1", ""])
        self.refused(["", "1"])
        self.refused(["1..", "...", ".."])
        self.refused(["1......", "1......."])
        self.refused(["1.", "1", "1."])

    def test_signs_that_are_none(self):
        other_scripts = ("\u0661", "\u0967", "\uff11", "\u00b2", "\u2460", "\U0001d7cf")
        others = ("0", "9", " ", "a", "O", "l", "\n", "\r", "\t", "-", "=", "|", '"', ",", "\0", "\u00b7")
        for sign in others + other_scripts:
            self.refused([sign])
            self.refused(["1" + sign])
            self.refused([sign + "1"])
            self.refused(["1..", "." + sign + ".", "..1"])
            self.refused(["1..", "...", ".1" + sign])

    def test_number_of_islands(self):
        self.refused(["."])
        self.refused(["......."] * 7)
        self.refused(["111111", "11111."])
        self.refused(["1111111"] * 7)

    def test_several_faults_at_once(self):
        self.refused(["0", ""])
        self.refused(["0"] * 8)
        self.refused(["x" * 8, "y" * 9])


class TheAskersOwn(unittest.TestCase):
    def test_what_is_handed_in_stays_as_it_was(self):
        for sea in (CROSSED, LATTICE, FULL):
            handed = list(sea)
            asked_of(handed)
            self.assertEqual(handed, sea)

    def test_what_is_refused_stays_as_it_was(self):
        for sea in ([], ["1", ""], ["0"], ["."], ["1"] * 8, ["1111111"] * 7):
            handed = list(sea)
            for ask in ASKED:
                with self.assertRaises(BadSea):
                    ask(handed)
                self.assertEqual(handed, sea)

    def test_what_is_told_may_be_changed(self):
        for ask in ASKED:
            with self.subTest(ask=ask.__name__):
                first = ask(LATTICE)
                expected = list(first)
                first.append("more")
                first[0] = "other"
                self.assertEqual(ask(LATTICE), expected)
                first.clear()
                self.assertEqual(ask(LATTICE), expected)

    def test_no_two_lists_told_are_one(self):
        for sea in (LATTICE, ["1"]):
            told = asked_of(sea) + asked_of(sea)
            self.assertEqual(len({id(answer) for answer in told}), len(told))

    def test_a_changed_list_does_not_change_what_another_function_tells(self):
        expected = asked_of(LATTICE)
        for ask in ASKED:
            ask(LATTICE).clear()
            self.assertEqual(asked_of(LATTICE), expected)

    def test_a_sea_may_be_changed_later(self):
        handed = list(CROSSED)
        told = asked_of(handed)
        handed[0] = "..."
        self.assertEqual(told, [[(0, 1, 1), (1, 0, 2), (1, 2, 2), (2, 1, 1)], [(0, 3), (1, 2)], [(0, 1)]])
        self.assertEqual(asked_of(handed), [[(1, 0, 2), (1, 2, 2), (2, 1, 1)], [(0, 1)], []])
        handed.clear()
        for ask in ASKED:
            with self.assertRaises(BadSea):
                ask(handed)


class Interface(unittest.TestCase):
    def test_arguments(self):
        for ask in ASKED:
            with self.subTest(ask=ask.__name__):
                self.assertEqual(list(inspect.signature(ask).parameters), ["sea"])
                self.assertEqual(ask(sea=CROSSED), ask(CROSSED))


if __name__ == "__main__":
    unittest.main()
