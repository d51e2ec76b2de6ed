"""Promises 4 to 6: names, solution and resolve."""

import itertools
import unittest

from tests.lines import ask, last, words, write
from tests.samples import BAD_TERMS, SETUP


class SolutionTest(unittest.TestCase):
    def test_the_example_under_words(self):
        self.assertEqual(last("0 2|1|1|1|2;1 0 2 0 0 1;1 1 3|4"), [2, 3, 0, 1, 0, 2, 0, 1, 0, 0, 1, 0, 0])

    def test_names_is_how_many_there_are(self):
        self.assertEqual(write("3|1|3|1|3|2;1 0 1;1 1 1|3|2;1 0 1;|3|1|3"), "0|0|1|1|2|1|1|1|0|2|1")

    def test_no_unknowns(self):
        for k in range(9):
            self.assertEqual(ask(f"0 {k}|3|4")[1:], [[0], [0]])

    def test_all_unknowns_fixed(self):
        self.assertEqual(last("0 2|1|1|2;1 0 1;0 0 1 0 1 -2|2;1 1 1;|4"), [0, 1, -2, 0, 0])

    def test_16_free_unknowns_and_8_bases(self):
        want = [16]
        for u in range(16):
            want += [1 if v == u else 0 for v in range(16)] + [0] * 8
        self.assertEqual(last("0 8|" + "|".join(["1"] * 16) + "|4"), want)

    def test_a_power_of_an_earlier_name_comes_into_range(self):
        # Unknowns 1 and 2 are tied by 5 times unknown 0: every name's power at a later home is below the pivot.
        self.assertEqual(last("1|1|1|2;1 1 1 1 0 5;1 2 2|4"), [2, 1, 0, 1, 2, 3, 1])

    def test_a_power_of_a_base_comes_into_range(self):
        # Unknown 0 is a cube times base 0 to the power 7: the cube takes 6 of them.
        self.assertEqual(last("0 1|1|1|2;1 0 1;1 1 3 0 0 7|4"), [1, 3, 1, 1, -2])
        self.assertEqual(last("0 1|1|1|2;1 0 1;1 1 3 0 0 -7|4"), [1, 3, 2, 1, 3])

    def test_a_pivot_is_above_0(self):
        self.assertEqual(last("1|1|2;1 0 2;1 1 -3|4"), [1, 3, -2])

    def test_the_order_of_equations_does_not_matter(self):
        equations = ("2;1 0 2 0 0 1;1 1 3", "2;1 2 4;1 3 6 0 0 4", "2;1 0 1 1 2 1;1 4 5", "2;1 1 1;1 3 1 0 0 -3")
        told = set()
        for order in itertools.permutations(equations):
            found = ask("0 2|1|1|1|1|1|" + "|".join(order) + "|4")
            self.assertEqual(found[6:10], [[1]] * 4)
            told.add(tuple(found[-1]))
        self.assertEqual(len(told), 1)

    def test_unknowns_made_before_or_between_equations_give_the_same(self):
        first = last("0 1|1|1|1|2;1 0 2;1 1 3 0 0 4|2;1 2 1;1 0 1|4")
        second = last("0 1|1|1|2;1 0 2;1 1 3 0 0 4|1|2;1 2 1;1 0 1|4")
        self.assertEqual(first, second)

    def test_numbers_far_beyond_what_is_handed_in(self):
        line = "0 1|" + "|".join(["1"] * 16) + "|2;1 0 1;0 0 99"
        for u in range(15):
            line += f"|2;1 {u + 1} 1;1 {u} 99"
        self.assertEqual(last(line + "|4"), [0] + [99 ** (u + 1) for u in range(16)])


class ResolveTest(unittest.TestCase):
    def test_by_the_told_solution(self):
        self.assertEqual(last(SETUP + "|5;1 0 2"), [2, 6, 0, 2, 0])
        self.assertEqual(last(SETUP + "|5;1 1 -1 1 2 5 0 1 7"), [2, -2, 5, -1, 7])

    def test_a_base_and_an_unknown_may_come_more_than_once(self):
        self.assertEqual(last(SETUP + "|5;1 0 1 0 0 2 1 0 1 0 0 -5 1 0 -3 0 1 4 0 1 4"), [2, -3, 0, -4, 8])

    def test_the_empty_term(self):
        self.assertEqual(last(SETUP + "|5;"), [2, 0, 0, 0, 0])
        self.assertEqual(last("5;"), [0])

    def test_24_factors_and_powers_at_the_edges(self):
        self.assertEqual(last(f"{SETUP}|5;{words([1, 1, 99] * 24)}"), [2, 4752, 0, 2376, 0])
        self.assertEqual(last(f"{SETUP}|5;{words([0, 1, -99] * 24)}"), [2, 0, 0, 0, -2376])
        self.assertEqual(last(f"{SETUP}|5;{words([1, 0, 0] * 24)}"), [2, 0, 0, 0, 0])

    def test_both_sides_of_a_kept_equation_resolve_to_the_same(self):
        found = ask(SETUP + "|5;1 0 2 0 0 1|5;1 1 3")
        self.assertEqual(found[-1], found[-2])

    def test_terms_that_are_not_good(self):
        want = last(SETUP + "|4")
        for bad in BAD_TERMS:
            self.assertEqual(ask(f"{SETUP}|5;{words(bad)}|4")[-2:], [[-3], want], bad[:9])
        self.assertEqual(last(f"{SETUP}|5;{words([0] * 10000)}"), [-3])

    def test_a_term_is_good_once_its_unknown_is_there(self):
        self.assertEqual(write("5;1 0 1|1|5;1 0 1|0 0|5;1 0 1"), "-3|0|1 1|0|-3")


if __name__ == "__main__":
    unittest.main()
