"""Promise 11: root."""

import itertools
import unittest

from measures.system import answers
from tests import reference
from tests.lines import ask, call_text, last, words
from tests.made import Made
from tests.samples import BAD_TERMS, BIG, SETUP


class RootTest(unittest.TestCase):
    def test_the_one_under_examples(self):
        self.assertEqual(last(SETUP + "|10 2;1 0 2"), [1, 3, 0, 1, 0])

    def test_a_multiple_under_every_filling(self):
        # By the kept equation the cube of unknown 1 is the square of unknown 0 times base 0.
        self.assertEqual(last(SETUP + "|10 3;1 0 2 0 0 1"), [1, 2, 0, 1, 0])
        self.assertEqual(last(SETUP + "|10 2;1 1 3 0 0 -1"), [1, 3, 0, 1, 0])
        self.assertEqual(last(SETUP + "|10 9;1 2 99 0 1 -18"), [1, 0, 11, 0, -2])

    def test_every_d(self):
        for d in range(2, 10):
            for power in range(-30, 31):
                want = [1, power // d, 0] if power % d == 0 else [0]
                self.assertEqual(last(f"0 1|1|10 {d};1 0 {power}"), want)
                want = [1, 0, power // d] if power % d == 0 else [0]
                self.assertEqual(last(f"0 1|1|10 {d};0 0 {power}"), want)

    def test_a_multiple_in_the_names_places_but_not_in_the_bases(self):
        self.assertEqual(last(SETUP + "|10 2;1 2 2 0 0 1"), [0])
        self.assertEqual(last(SETUP + "|10 2;1 2 2 0 0 2 0 1 3"), [0])
        self.assertEqual(last(SETUP + "|10 3;1 0 1"), [0])
        self.assertEqual(last(SETUP + "|10 2;1 1 1"), [0])

    def test_a_multiple_in_the_bases_places_but_not_in_the_names(self):
        self.assertEqual(last(SETUP + "|10 2;1 2 1 0 0 2"), [0])
        self.assertEqual(last(SETUP + "|10 2;1 2 1"), [0])
        self.assertEqual(last(SETUP + "|10 2;1 0 1 0 0 -1"), [0])
        # Without bases a filling without more atoms has no numbers at all, but one with more atoms has.
        self.assertEqual(last("1|10 2;1 0 1"), [0])
        self.assertEqual(last("1|10 2;1 0 4"), [1, 2])

    def test_one_name_of_two_is_not_a_multiple(self):
        self.assertEqual(last("0 1|1|1|10 3;1 0 3 1 1 4"), [0])
        self.assertEqual(last("0 1|1|1|10 3;1 0 4 1 1 3"), [0])
        self.assertEqual(last("0 1|1|1|10 3;1 0 6 1 1 3"), [1, 2, 1, 0])

    def test_numbers_below_0(self):
        self.assertEqual(last(SETUP + "|10 2;1 0 -2"), [1, -3, 0, -1, 0])
        self.assertEqual(last("0 2|1|10 4;1 0 -8 0 0 -4 0 1 12"), [1, -2, -1, 3])
        self.assertEqual(last("0 2|1|10 4;1 0 -8 0 0 -5 0 1 12"), [0])
        self.assertEqual(last("0 1|1|10 5;1 0 -99"), [0])
        self.assertEqual(last("0 1|1|2;1 0 1;0 0 -7|10 7;1 0 1"), [1, -1])

    def test_the_empty_term(self):
        for d in range(2, 10):
            self.assertEqual(last(f"{SETUP}|10 {d};"), [1, 0, 0, 0, 0])
            self.assertEqual(last(f"10 {d};"), [1])
        self.assertEqual(last(SETUP + "|10 7;1 0 1 1 0 -1 0 1 0"), [1, 0, 0, 0, 0])

    def test_powers_add_up(self):
        self.assertEqual(last(f"{SETUP}|10 8;{words([1, 2, 99] * 24)}"), [1, 0, 297, 0, 0])
        self.assertEqual(last("0 1|1|10 2;1 0 1 0 0 3 1 0 1 0 0 -1"), [1, 1, 1])

    def test_asking_changes_nothing(self):
        want = ask(SETUP + "|4|14")[-2:]
        for call in ("10 2;1 0 2", "10 2;1 0 1", "10 1;1 0 2", "10 2;1 3 1"):
            self.assertEqual(ask(f"{SETUP}|{call}|{call}|4|14")[-2:], want)


class RefusalTest(unittest.TestCase):
    def test_d_out_of_range(self):
        for d in (1, 10, 0, -1, -2, -9, 11, BIG, -BIG):
            for t in ("", "1 0 2", "1 2 10", "0 0 1"):
                self.assertEqual(last(f"{SETUP}|10 {d};{t}"), [-1], (d, t))
        for d in (2, 9):
            self.assertEqual(last(f"{SETUP}|10 {d};1 2 {9 * d}"), [1, 0, 9, 0, 0])

    def test_a_term_that_is_not_good_is_looked_at_before_d(self):
        want = last(SETUP + "|4")
        for bad in BAD_TERMS:
            for d in (2, 9, 1, 10, BIG, -BIG):
                self.assertEqual(ask(f"{SETUP}|{call_text(10, [d], [bad])}|4")[-2:], [[-3], want], (d, bad[:9]))

    def test_d_stands_ahead_of_the_term(self):
        self.assertEqual(answers([0, 1, 1, 10, 3, 6, 1, 0, 9, 0, 0, 6, 3]), [1, 0, 1, 0, 3, 1, 3, 2, 1, 1])


class WordsTest(unittest.TestCase):
    def test_against_the_values_under_small_choices(self):
        found = set()
        for seed in range(120):
            made = Made(seed, most_unknowns=3, most_factors=3, most_power=4)
            for step in range(4):
                made.equate()
            for step in range(3):
                made.ask_root()
                answer = last("|".join(made.calls))
                parts = made.calls[-1].split(";")
                d = int(parts[0].split()[1])
                term = [int(word) for word in parts[1].split()]
                self.assertEqual(answer[0], self.by_values(made.model, term, d), (made.calls, term, d))
                found.add(answer[0])
        self.assertEqual(found, {0, 1})

    def by_values(self, model, term, d):
        """1 if the term's value is a multiple under each filling from choices of 0 and 1, one more atom among them."""
        told = model.told()
        width = model.base_count + 1
        for numbers in itertools.product(range(2), repeat=told[0]):
            choice = [[number] * width for number in numbers]
            filling = reference.filling_of(choice, told, model.base_count, 1)
            if any(number % d for number in reference.value(term, filling, width)):
                return 0
        return 1


if __name__ == "__main__":
    unittest.main()
