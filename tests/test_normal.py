"""Promise 8: normal."""

import unittest

from tests.lines import ask, last, words
from tests.samples import BAD_TERMS, BIG, SETUP


class NormalTest(unittest.TestCase):
    def test_the_example_under_words(self):
        self.assertEqual(last(SETUP + "|7;2 1 1 1 0 1 1 1 1 0 2"), [1, 2, 1, 1, 6, 2, 0])

    def test_an_empty_list(self):
        self.assertEqual(last(SETUP + "|7;"), [0])
        self.assertEqual(last("7;"), [0])

    def test_terms_of_no_factors(self):
        self.assertEqual(last(SETUP + "|7;0"), [0, 0, 0])
        self.assertEqual(last("0 1|1|7;0 1 1 0 1 0"), [1, 0, 0, 1, 0, 0, 0])
        self.assertEqual(last("7;0 0 0"), [0])

    def test_terms_with_one_value_have_no_names(self):
        self.assertEqual(last(SETUP + "|7;1 0 0 7 3 1 0 2 1 1 -3 0 1 -1"), [0, 7, 0, -1, -1])

    def test_the_order_of_the_terms_matters(self):
        self.assertEqual(last("0 1|1|1|7;2 1 0 2 0 0 1 1 1 0 3"), [1, 2, 1, 3, 0])
        self.assertEqual(last("0 1|1|1|7;1 1 0 3 2 1 0 2 0 0 1"), [1, 3, 0, 2, 1])

    def test_a_term_that_says_the_same_as_one_before(self):
        self.assertEqual(last("0 1|1|7;1 1 0 1 1 1 0 1 1 1 0 -2"), [1, 1, 0, 1, 0, -2, 0])

    def test_names_that_only_come_together_are_one(self):
        # Unknowns 0 and 1 are free, but only their product is asked for.
        self.assertEqual(last("0 1|1|1|7;2 1 0 1 1 1 1 2 1 0 2 1 1 2"), [1, 1, 0, 2, 0])
        # Products whose powers have the divisor 2.
        self.assertEqual(last("0 1|1|1|7;3 1 0 4 1 1 6 0 0 5"), [1, 2, 1])

    def test_powers_come_into_range(self):
        # (b), (c) and (d): pivots above 0, earlier names and bases from 0 to one below the pivot.
        self.assertEqual(last("0 1|1|7;2 1 0 -3 0 0 -1"), [1, 3, 2])
        self.assertEqual(last("1|1|7;1 1 0 1 2 1 0 5 1 1 -3"), [2, 1, 0, 2, 3])
        self.assertEqual(last("0 2|1|1|7;2 1 0 2 0 0 5 3 1 0 1 1 1 4 0 1 -1"), [2, 2, 0, 1, 0, 1, 4, 2, 3])

    def test_all_unknowns_of_the_told_solution(self):
        # The list of the unknowns themselves has the told solution as its normal form.
        found = ask(SETUP + "|4|7;1 1 0 1 1 1 1 1 1 1 2 1")
        self.assertEqual(found[-1], found[-2])

    def test_16_terms_and_17(self):
        self.assertEqual(last("0 1|1|7;" + words([1, 1, 0, 2] * 16)), [1] + [2, 0] * 16)
        self.assertEqual(last("0 1|1|7;" + words([1, 1, 0, 2] * 17)), [-1])
        self.assertEqual(last("0 1|1|7;" + words([0] * 16)), [0] + [0] * 16)
        self.assertEqual(last("0 1|1|7;" + words([0] * 17)), [-1])
        self.assertEqual(last("0 1|1|7;" + words([0] * 10000)), [-1])

    def test_24_factors_and_25(self):
        self.assertEqual(last("0 1|1|7;" + words([24] + [1, 0, 99] * 24)), [1, 2376, 0])
        self.assertEqual(last("0 1|1|7;" + words([25] + [1, 0, 99] * 25)), [-3])

    def test_a_list_that_cannot_be_read_to_its_end(self):
        want = last(SETUP + "|4")
        for numbers in ([-1], [1], [1, 0], [1, 0, 0], [1, 0, 0, 1, 1], [1, 0, 0, 1, 2, 0, 0, 1], [0, -1], [0, -1, 0, 0],
                        [BIG], [-BIG], [2, 0, 0, 1, 0, 0], [0, 0, 0, 3333], [1, 1, 0, 1, -1, 1, 0, 1]):
            self.assertEqual(ask(f"{SETUP}|7;{words(numbers)}|4")[-2:], [[-1], want], numbers)

    def test_terms_that_are_not_good(self):
        want = last(SETUP + "|4")
        good = [1, 1, 0, 1]
        for bad in BAD_TERMS:
            if len(bad) % 3 == 0:
                numbers = [len(bad) // 3] + bad
                for ts in (numbers, good + numbers, numbers + good):
                    self.assertEqual(ask(f"{SETUP}|7;{words(ts)}|4")[-2:], [[-3], want], ts[:9])

    def test_reading_is_looked_at_before_the_terms(self):
        bad = [1, 5, 0, 1]
        for numbers in (bad + [-1], bad + [1], bad * 17, bad + [0] * 16):
            self.assertEqual(last(f"{SETUP}|7;{words(numbers)}"), [-1], numbers)
        self.assertEqual(last(f"{SETUP}|7;{words(bad * 16)}"), [-3])

    def test_asking_changes_nothing(self):
        want = last(SETUP + "|4")
        self.assertEqual(last(SETUP + "|7;2 1 1 1 0 1 1 1 1 0 2|4"), want)


if __name__ == "__main__":
    unittest.main()
