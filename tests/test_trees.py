import inspect
import random
import unittest

from bridgeties.bounds import narrowed
from bridgeties.errors import BadBounds, BadSea
from bridgeties.layings import fits
from bridgeties.seas import sights
from bridgeties.trees import layings, tree
from tests.expected import (
    NO_SEAS,
    all_layings,
    chance_bounds,
    expected_tree,
    laid_seas,
    seas_of,
)

# Sights (0, 1), (0, 2), (1, 3), (2, 3).
RING = [
    "2.2",
    "...",
    "2.2",
]
# Sights (0, 1), (0, 5), (1, 3), (2, 3), (2, 4), (3, 6), (4, 5), (5, 6); 1 and 3 cross.
CHOICE = [
    ".23",
    "2.3",
    "343",
]
# Sights (0, 1), (0, 2), (1, 3), (2, 3).
THREES = ["3.3", "...", "3.3"]


def full(sea):
    return [(0, 2) for sight in sights(sea)]


def nodes_of(told):
    nodes = [told]
    if told[0] == "try":
        for branch in told[2]:
            nodes.extend(nodes_of(branch))
    return nodes


def laid_of(told):
    return [node[1] for node in nodes_of(told) if node[0] == "laid"]


def lists_of(told):
    if isinstance(told, (list, tuple)):
        within = [found for part in told for found in lists_of(part)]
        return within + [told] if isinstance(told, list) else within
    return []


class NothingWithin(unittest.TestCase):
    def test_where_narrowing_tells_none(self):
        for sea in (["1.2"], ["3.3"], ["1"], ["1.", ".1"], [".1.", "2.2", ".1."], ["1.1.", "...1"]):
            with self.subTest(sea=sea):
                self.assertIsNone(narrowed(sea, full(sea)))
                self.assertEqual(tree(sea, full(sea)), ("none",))

    def test_ahead_of_apart(self):
        self.assertEqual(tree(["2.2"], [(0, 0)]), ("none",))
        self.assertEqual(tree(["1.2....", "...1.1."], [(0, 2), (0, 2)]), ("none",))


class Apart(unittest.TestCase):
    def test_where_the_sights_left_do_not_join_all(self):
        sea = ["1.1....", "...1.1."]
        self.assertEqual(narrowed(sea, full(sea)), [(1, 1), (1, 1)])
        self.assertEqual(tree(sea, full(sea)), ("apart",))

    def test_ahead_of_a_try(self):
        ladder = ["2..2", ".1..", "2..2", ".1..", "2..2"]
        self.assertIn((0, 2), narrowed(ladder, full(ladder)))
        self.assertEqual(tree(ladder, full(ladder)), ("apart",))

    def test_highs_after_narrowing_tell(self):
        self.assertEqual(tree(RING, [(2, 2), (0, 2), (0, 2), (0, 2)]), ("apart",))


class Laid(unittest.TestCase):
    def test_where_each_low_is_its_high(self):
        self.assertEqual(tree(["1.1"], [(0, 2)]), ("laid", [1]))
        self.assertEqual(tree(["2", "2"], [(0, 2)]), ("laid", [2]))
        self.assertEqual(tree(["1.3.2"], [(0, 2), (0, 2)]), ("laid", [1, 2]))
        self.assertEqual(tree(["131", ".1."], full(["131", ".1."])), ("laid", [1, 1, 1]))

    def test_of_bounds_handed_in(self):
        self.assertEqual(tree(RING, [(1, 1), (0, 2), (0, 2), (0, 2)]), ("laid", [1, 1, 1, 1]))
        self.assertEqual(tree(RING, [(1, 1)] * 4), ("laid", [1, 1, 1, 1]))


class Try(unittest.TestCase):
    def test_a_tree_for_each_number_rising(self):
        expected = ("try", (0, 1), [("apart",), ("laid", [1, 1, 1, 1]), ("apart",)])
        self.assertEqual(tree(RING, full(RING)), expected)

    def test_from_the_narrowed_low_to_the_narrowed_high(self):
        self.assertEqual(narrowed(THREES, full(THREES)), [(1, 2)] * 4)
        expected = ("try", (0, 1), [("laid", [1, 2, 2, 1]), ("laid", [2, 1, 1, 2])])
        self.assertEqual(tree(THREES, full(THREES)), expected)
        ones = ["1.1", "...", "1.1"]
        self.assertEqual(tree(ones, full(ones)), ("try", (0, 1), [("apart",), ("apart",)]))

    def test_the_first_sight_whose_low_is_below_its_high(self):
        tail = ["13.2", "....", ".2.2"]
        self.assertEqual(sights(tail), [(0, 1), (1, 2), (1, 3), (2, 4), (3, 4)])
        self.assertEqual(narrowed(tail, full(tail)), [(1, 1)] + [(0, 2)] * 4)
        expected = ("try", (1, 2), [("apart",), ("laid", [1, 1, 1, 1, 1]), ("apart",)])
        self.assertEqual(tree(tail, full(tail)), expected)

    def test_tries_within_tries(self):
        told = tree(CHOICE, full(CHOICE))
        self.assertEqual(told, expected_tree(CHOICE, full(CHOICE)))
        self.assertEqual(laid_of(told), [[1, 1, 2, 0, 2, 1, 1, 2], [2, 0, 1, 1, 1, 1, 2, 2]])
        deep = ["2342", "343.", "232."]
        told = tree(deep, full(deep))
        self.assertEqual(told, expected_tree(deep, full(deep)))
        self.assertGreater(max(len(nodes_of(branch)) for branch in told[2]), 10)

    def test_bounds_handed_in(self):
        self.assertEqual(
            tree(RING, [(0, 1), (0, 2), (0, 2), (0, 2)]),
            ("try", (0, 1), [("apart",), ("laid", [1, 1, 1, 1])]),
        )
        self.assertEqual(
            tree(RING, [(0, 2), (0, 2), (0, 2), (1, 2)]),
            ("try", (0, 1), [("laid", [1, 1, 1, 1]), ("apart",)]),
        )
        self.assertEqual(tree(THREES, [(0, 2), (0, 1), (0, 2), (0, 2)]), ("laid", [2, 1, 1, 2]))

    def test_kinds(self):
        for sea in (CHOICE, RING, ["2342", "343.", "232."]):
            for node in nodes_of(tree(sea, full(sea))):
                self.assertIs(type(node), tuple)
                self.assertEqual(len(node), {"none": 1, "apart": 1, "laid": 2, "try": 3}[node[0]])
                if node[0] == "laid":
                    self.assertIs(type(node[1]), list)
                    self.assertEqual({type(number) for number in node[1]}, {int})
                if node[0] == "try":
                    self.assertIs(type(node[1]), tuple)
                    self.assertIn(node[1], sights(sea))
                    self.assertIs(type(node[2]), list)


class AgainstTheDocument(unittest.TestCase):
    def test_trees_of_small_seas(self):
        kinds = set()
        for rows, signs in ((1, 4), (4, 1), (2, 2)):
            for sea in seas_of(rows, signs, ".1234"):
                told = tree(sea, full(sea))
                self.assertEqual(told, expected_tree(sea, full(sea)), sea)
                kinds |= {node[0] for node in nodes_of(told)}
        self.assertEqual(kinds, {"none", "apart", "laid", "try"})

    def test_trees_of_seas_of_every_size(self):
        chance = random.Random(21)
        kinds = {"none": 0, "apart": 0, "laid": 0, "try": 0}
        for sea in laid_seas(300, 10):
            for bounds in (full(sea), chance_bounds(chance, sea)):
                told = tree(sea, bounds)
                self.assertEqual(told, expected_tree(sea, bounds), (sea, bounds))
                for node in nodes_of(told):
                    kinds[node[0]] += 1
        self.assertGreater(min(kinds.values()), 20)

    def test_laid_leaves_are_the_layings_within_the_bounds_that_fit(self):
        chance = random.Random(22)
        laid = 0
        for sea in laid_seas(250, 7):
            if len(sights(sea)) > 6:
                continue
            fitting = [laying for laying in all_layings(sea) if fits(sea, laying)]
            self.assertEqual(layings(sea), fitting, sea)
            bounds = chance_bounds(chance, sea)
            inside = [
                laying for laying in fitting
                if all(low <= number <= high for number, (low, high) in zip(laying, bounds))
            ]
            self.assertEqual(laid_of(tree(sea, bounds)), inside, (sea, bounds))
            laid += len(fitting)
        self.assertGreater(laid, 20)

    def test_all_small_rings(self):
        several = 0
        for sea in seas_of(2, 2, "12345"):
            fitting = [laying for laying in all_layings(sea) if fits(sea, laying)]
            self.assertEqual(layings(sea), fitting, sea)
            several += len(fitting) > 1
        self.assertGreater(several, 5)


class Layings(unittest.TestCase):
    def test_none(self):
        for sea in (["1"], ["8"], ["1.2"], ["3.3"], [".1.", "2.2", ".1."], ["1.1", "...", "1.1"], ["1.", ".1"]):
            with self.subTest(sea=sea):
                self.assertEqual(layings(sea), [])

    def test_one(self):
        self.assertEqual(layings(["1.1"]), [[1]])
        self.assertEqual(layings(["2.2"]), [[2]])
        self.assertEqual(layings(["1.3.2"]), [[1, 2]])
        self.assertEqual(layings(RING), [[1, 1, 1, 1]])

    def test_several_in_the_order_of_lists(self):
        self.assertEqual(layings(THREES), [[1, 2, 2, 1], [2, 1, 1, 2]])
        self.assertEqual(layings(CHOICE), [[1, 1, 2, 0, 2, 1, 1, 2], [2, 0, 1, 1, 1, 1, 2, 2]])
        many = layings(["2342", "343.", "232."])
        self.assertEqual(len(many), 31)
        self.assertEqual(many, sorted(many))

    def test_they_are_the_laid_leaves_of_the_tree_of_the_sea(self):
        for sea in laid_seas(200, 10) + [RING, THREES, CHOICE, ["2342", "343.", "232."]]:
            self.assertEqual(layings(sea), laid_of(tree(sea, full(sea))), sea)

    def test_kinds(self):
        told = layings(CHOICE)
        self.assertIs(type(told), list)
        for laying in told:
            self.assertIs(type(laying), list)
            self.assertEqual({type(number) for number in laying}, {int})


class WrongInputs(unittest.TestCase):
    def refused(self, refusal, sea, bounds):
        with self.subTest(sea=sea, bounds=bounds):
            with self.assertRaises(refusal):
                tree(sea, bounds)

    def test_what_is_no_sea(self):
        for sea in NO_SEAS:
            self.refused(BadSea, sea, [])
            self.refused(BadSea, sea, [(0, 2)])
            with self.subTest(sea=sea):
                with self.assertRaises(BadSea):
                    layings(sea)

    def test_bad_sea_ahead_of_bad_bounds(self):
        for sea in NO_SEAS:
            self.refused(BadSea, sea, [(2, 0)])
            self.refused(BadSea, sea, [(-1, 3), (0, 9)])
            self.refused(BadSea, sea, [(0, 2)] * 30)

    def test_bounds_too_short_or_too_long(self):
        self.refused(BadBounds, RING, [])
        self.refused(BadBounds, RING, [(0, 2)] * 3)
        self.refused(BadBounds, RING, [(0, 2)] * 5)
        self.refused(BadBounds, ["1"], [(0, 2)])

    def test_numbers_that_are_none(self):
        for wrong in ((-1, 2), (-1, -1), (0, 3), (2, 3), (3, 3), (1, 0), (2, 0), (2, 1)):
            for number in range(4):
                bounds = full(RING)
                bounds[number] = wrong
                self.refused(BadBounds, RING, bounds)


class TheAskersOwn(unittest.TestCase):
    def test_what_is_handed_in_stays_as_it_was(self):
        for sea in (RING, CHOICE, THREES, ["1.1"], ["1"]):
            handed_sea, handed_bounds = list(sea), full(sea)
            tree(handed_sea, handed_bounds)
            layings(handed_sea)
            self.assertEqual((handed_sea, handed_bounds), (sea, full(sea)))

    def test_what_is_refused_stays_as_it_was(self):
        for bounds in ([(0, 2)] * 3, [(0, 2)] * 3 + [(2, 1)], [(0, 3)] * 4):
            handed_sea, handed_bounds = list(RING), list(bounds)
            with self.assertRaises(BadBounds):
                tree(handed_sea, handed_bounds)
            self.assertEqual((handed_sea, handed_bounds), (RING, bounds))

    def test_no_list_within_a_tree_is_another(self):
        for sea in (RING, CHOICE, THREES, ["1.1"], ["2342", "343.", "232."]):
            bounds = full(sea)
            lists = [sea, bounds]
            for told in (tree(sea, bounds), tree(sea, bounds), layings(sea), layings(sea)):
                lists.extend(lists_of(told))
            self.assertEqual(len({id(found) for found in lists}), len(lists))

    def test_every_list_of_a_tree_may_be_changed(self):
        for sea in (RING, CHOICE, THREES, ["1.1"]):
            bounds = full(sea)
            expected = expected_tree(sea, full(sea))
            fitting = layings(sea)
            for number in range(len(lists_of(expected))):
                told = tree(sea, bounds)
                changed = lists_of(told)
                before = [list(found) for found in changed]
                changed[number].append("more")
                self.assertEqual([found == old for found, old in zip(changed, before)].index(False), number)
                changed[number].clear()
                self.assertEqual(tree(sea, bounds), expected)
                self.assertEqual(layings(sea), fitting)
                self.assertEqual(bounds, full(sea))

    def test_every_list_of_layings_may_be_changed(self):
        for sea in (RING, CHOICE, THREES, ["1.1"], ["1.2"]):
            expected = [list(laying) for laying in layings(sea)]
            told = layings(sea)
            for laying in told:
                laying.clear()
            told.append("more")
            self.assertEqual(layings(sea), expected)
            self.assertEqual(laid_of(tree(sea, full(sea))), expected)

    def test_what_was_handed_in_may_be_changed_later(self):
        sea, bounds = list(RING), full(RING)
        told, fitting = tree(sea, bounds), layings(sea)
        bounds[0] = (1, 1)
        sea[0] = "3.3"
        sea[2] = "3.3"
        self.assertEqual(told, ("try", (0, 1), [("apart",), ("laid", [1, 1, 1, 1]), ("apart",)]))
        self.assertEqual(fitting, [[1, 1, 1, 1]])
        self.assertEqual(tree(sea, bounds), ("laid", [1, 2, 2, 1]))
        self.assertEqual(layings(sea), [[1, 2, 2, 1], [2, 1, 1, 2]])


class Interface(unittest.TestCase):
    def test_arguments(self):
        self.assertEqual(list(inspect.signature(tree).parameters), ["sea", "bounds"])
        self.assertEqual(list(inspect.signature(layings).parameters), ["sea"])
        self.assertEqual(tree(sea=RING, bounds=full(RING)), tree(RING, full(RING)))
        self.assertEqual(layings(sea=RING), layings(RING))


if __name__ == "__main__":
    unittest.main()
