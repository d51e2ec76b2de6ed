"""Promise 3: equate, and what makes a term good."""

import unittest

from tests.lines import ask, last, two_terms, words, write
from tests.samples import BAD_TERMS, SETUP


class RefusalTest(unittest.TestCase):
    def test_terms_that_are_not_good(self):
        want = last(SETUP + "|4")
        for bad in BAD_TERMS:
            for left, right in ((bad, []), ([], bad), (bad, bad), (bad, [1, 0, 1]), ([1, 0, 1], bad)):
                line = f"{SETUP}|{two_terms(2, left, right)}|4"
                self.assertEqual(ask(line)[-2:], [[-3], want], (left[:9], right[:9]))

    def test_a_term_that_is_not_good_is_looked_at_before_an_impossible_equation(self):
        # Without the powers out of range both would be impossible, or need fractions.
        self.assertEqual(write("0 1|1|2;0 0 1 1 0 100;|2;0 0 1;0 1 1|2;1 0 2;0 0 1 2 0 0"), "0|0|-3|-3|-3")

    def test_the_two_refusals_that_the_document_names(self):
        self.assertEqual(write("0 1|1|2;1 0 2;0 0 1|2;0 0 1;|4"), "0|0|-7|-4|1 1 0")

    def test_a_refused_equation_changes_nothing(self):
        want = last(SETUP + "|4")
        for refused, number in (("2;0 0 1;", -4), ("2;1 2 2;0 1 1", -7), ("2;1 1 99;1 3 1", -3)):
            line = f"{SETUP}|{refused}|4|3|2;1 2 1;1 0 1|4"
            plain = f"{SETUP}|4|3|2;1 2 1;1 0 1|4"
            self.assertEqual(ask(line)[5], [number])
            self.assertEqual(ask(line)[6], want)
            self.assertEqual(ask(line)[6:], ask(plain)[5:])

    def test_impossible_by_what_is_kept(self):
        # Unknown 0 is base 0, so its square isn't base 1.
        self.assertEqual(last("0 2|1|2;1 0 1;0 0 1|2;1 0 2;0 1 1"), [-4])
        # A quarrel with two kept equations together.
        self.assertEqual(last("0 1|1|1|1|2;1 0 1;1 1 1|2;1 1 1;1 2 1 0 0 1|2;1 2 1;1 0 1"), [-4])
        self.assertEqual(last("0 1|1|1|2;1 0 2;1 1 2|2;1 0 1;1 1 1 0 0 1"), [-4])

    def test_fractions_needed_because_of_what_is_kept(self):
        # By the first equation unknown 0 is a cube times base 0, so its powers of base 0 leave 1 by 3.
        self.assertEqual(last("0 1|1|1|2;1 0 1;1 1 3 0 0 1|2;1 0 1;1 1 6"), [-7])
        self.assertEqual(last("0 1|1|1|2;1 0 1;1 1 3 0 0 1|2;1 0 1;0 0 2"), [-7])
        self.assertEqual(last("0 1|1|1|2;1 0 1;1 1 3 0 0 1|2;1 0 1;0 0 4"), [1])

    def test_fractions_needed_at_one_base_of_several(self):
        self.assertEqual(last("0 3|1|2;1 0 3;0 0 3 0 1 -6 0 2 4"), [-7])
        self.assertEqual(last("0 3|1|2;1 0 3;0 0 3 0 1 -6 0 2 9"), [1])

    def test_the_divisor_is_that_of_all_unknowns_together(self):
        self.assertEqual(write("0 1|1|1|2;1 0 6;1 1 10 0 0 3|2;1 0 6;1 1 9 0 0 3"), "0|0|1|-7|1")

    def test_fractions_that_do_both_are_looked_for_not_those_that_hold_alone(self):
        # "unknown 0 squared = base 0" needs fractions by itself; beside "unknown 0 = base 0" not even they help.
        self.assertEqual(write("0 1|1|2;1 0 2;0 0 1|2;1 0 1;0 0 1|2;1 0 2;0 0 1"), "0|0|-7|1|-4")


class KeepingTest(unittest.TestCase):
    def test_nothing_new(self):
        for line in ("2;;", "0 1|2;0 0 1;0 0 1", "1|2;1 0 1;1 0 1", "1|2;1 0 99 1 0 -99;", "0 2|2;0 1 0;",
                     "0 1|1|2;1 0 2 0 0 1 1 0 -1;1 0 1 0 0 1"):
            self.assertEqual(last(line), [0])

    def test_nothing_new_after_what_is_kept(self):
        self.assertEqual(write("0 1|1|1|2;1 0 1;1 1 1|2;1 1 1;1 0 1|2;1 0 7 0 0 1;1 1 7 0 0 1|4"),
                         "0|0|1|1|0|0|1 1 0 1 0")

    def test_the_root_of_a_kept_equation_is_nothing_new(self):
        # Powers are whole numbers, so what holds of the squares holds of the roots.
        self.assertEqual(write("0 1|1|1|2;1 0 2;1 1 2|2;1 0 1;1 1 1"), "0|0|1|1|0")
        self.assertEqual(write("0 1|1|2;1 0 4;0 0 8|2;1 0 1;0 0 2|4"), "0|0|1|0|0 2")

    def test_an_equation_without_bases_says_something_though_rows_without_atoms_are_empty(self):
        self.assertEqual(write("1|2;1 0 1;|2;1 0 1;|3|4"), "0|1|0|0|0")

    def test_without_bases_nothing_is_impossible(self):
        self.assertEqual(write("1|1|2;1 0 2;1 1 3|2;1 0 5;1 1 5|4"), "0|1|1|1|0")

    def test_at_most_as_many_equations_as_unknowns(self):
        setup = "0 1|" + "|".join(["1"] * 16)
        equations = "|".join(f"2;1 {u} 1;1 {(u + 1) % 16} 2 0 0 1" for u in range(16))
        found = ask(f"{setup}|{equations}|3|4")
        # Around the circle unknown 0 is its own power 65536 times base 0 to the power 65535.
        self.assertEqual(found[17:33], [[1]] * 16)
        self.assertEqual(found[33:], [[0], [0] + [-1] * 16])

    def test_powers_add_up_within_a_term(self):
        self.assertEqual(write("0 1|1|2;1 0 2 0 0 3 1 0 -1 0 0 -1;0 0 5 0 0 -1|4"), "0|0|1|0 2")

    def test_powers_at_the_edges(self):
        self.assertEqual(write("0 1|1|2;1 0 99;0 0 99|4"), "0|0|1|0 1")
        self.assertEqual(write("0 1|1|2;1 0 -99;0 0 99|4"), "0|0|1|0 -1")
        self.assertEqual(write("0 1|1|2;1 0 0;0 0 0|4"), "0|0|0|1 1 0")
        self.assertEqual(write("0 1|1|1|2;1 0 99;1 1 -99 0 0 99|4"), "0|0|1|1|1 1 0 -1 1")

    def test_terms_of_24_factors(self):
        left = words([1, 0, 99] * 24)
        right = words([1, 1, 99] * 12 + [0, 0, 99] * 12)
        self.assertEqual(write(f"0 1|1|1|2;{left};{right}|4"), "0|0|1|1|1 1 0 2 -1")

    def test_left_and_right_may_change_places(self):
        one = last("0 2|1|1|1|2;1 0 2 0 0 1;1 1 3|4")
        other = last("0 2|1|1|1|2;1 1 3;1 0 2 0 0 1|4")
        self.assertEqual(one, other)


if __name__ == "__main__":
    unittest.main()
