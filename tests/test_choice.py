"""Promise 9: choice."""

import random
import unittest

from tests import reference
from tests.lines import ask, call_text, last, split_rows, words
from tests.samples import BIG, SETUP

# Lines that keep equations, each with how many bases and unknowns it makes.
SYSTEMS = (
    ("0 0|1|1|1", 0, 3),
    ("0 2|1|1|1", 2, 3),
    (SETUP, 2, 3),
    ("0 0|1|1|1|2;1 0 2;1 1 3", 0, 3),
    ("0 1|1|1|2;1 0 1;1 1 3 0 0 7", 1, 2),
    ("0 2|1|1|2;1 0 1;0 0 1 0 1 -2|2;1 1 1;", 2, 2),
    ("0 1|1|1|1|2;1 1 1 1 0 5 0 0 3;1 2 2", 1, 3),
    ("0 3|1|1|1|1|2;1 0 4;1 1 6 0 0 2|2;1 2 3 0 1 1;1 3 -2 1 0 1", 3, 4),
    ("0 8|" + "|".join(["1"] * 16) + "|2;1 0 2;1 15 3 0 7 1", 8, 16),
)


def told(line, base_count, count):
    return split_rows(last(line + "|4"), base_count, count)


def choice_call(e, filling):
    return call_text(8, [e], [sum(filling, [])])


class SolvingTest(unittest.TestCase):
    def test_the_choice_that_a_filling_was_made_from_comes_back(self):
        rng = random.Random(9)
        for line, base_count, count in SYSTEMS:
            r, rows = told(line, base_count, count)
            for e in range(5):
                for most in (0, 1, 50, 10 ** 17):
                    choice = [[rng.randint(-most, most) for place in range(base_count + e)] for name in range(r)]
                    filling = reference.filling_of(choice, (r, rows), base_count, e)
                    found = last(f"{line}|{choice_call(e, filling)}")
                    self.assertEqual(found, [1] + sum(choice, []), (line, e, most))

    def test_the_system_of_the_first_example(self):
        # Name 0 is base 1 to the power 2, name 1 is base 0 to the power -1 times base 1 to the power 4.
        self.assertEqual(last(SETUP + "|8 0;1 6 1 4 -1 4"), [1, 0, 2, -1, 4])
        self.assertEqual(last(SETUP + "|8 1;1 6 3 1 4 2 -1 4 5"), [1, 0, 2, 1, -1, 4, 5])

    def test_numbers_up_to_the_edges(self):
        self.assertEqual(last(f"0 1|1|1|8 1;{BIG} {-BIG} {-BIG} {BIG}"), [1, BIG, -BIG, -BIG, BIG])
        self.assertEqual(last(f"0 1|1|1|2;1 0 1;1 1 -1|8 0;{BIG} {-BIG}"), [1, BIG])
        self.assertEqual(last(f"0 1|1|1|2;1 0 1;1 1 -1|8 0;{BIG} {BIG}"), [0])
        self.assertEqual(last(f"0 1|1|1|2;1 0 1;1 1 -1|8 0;{BIG} {1 - BIG}"), [0])
        # The third of the edge number isn't whole: 10^18 leaves 1 by 3, as base 0 to the power 1 does.
        self.assertEqual(last(f"0 1|1|1|2;1 0 1;1 1 3 0 0 1|8 0;{BIG} {BIG // 3}"), [1, BIG // 3])
        self.assertEqual(last(f"0 1|1|1|2;1 0 1;1 1 3 0 0 1|8 0;{-BIG} {-BIG // 3}"), [0])

    def test_no_unknowns(self):
        for k in (0, 1, 8):
            for e in range(5):
                self.assertEqual(last(f"0 {k}|8 {e};"), [1])
                self.assertEqual(last(f"0 {k}|8 {e};0"), [-1])
        self.assertEqual(last("8 0;"), [1])

    def test_no_bases_and_no_more_atoms(self):
        for line in ("1", "1|1|1", "1|1|2;1 0 2;1 1 3", "1|2;1 0 1;"):
            self.assertEqual(last(line + "|8 0;"), [1])
            self.assertEqual(last(line + "|8 0;0"), [-1])

    def test_no_names(self):
        line = "0 2|1|1|2;1 0 1;0 0 1 0 1 -2|2;1 1 1;"
        self.assertEqual(last(line + "|8 0;1 -2 0 0"), [1])
        self.assertEqual(last(line + "|8 2;1 -2 0 0 0 0 0 0"), [1])
        self.assertEqual(last(line + "|8 2;1 -2 0 1 0 0 0 0"), [0])
        self.assertEqual(last(line + "|8 0;1 -1 0 0"), [0])


class NotSolvingTest(unittest.TestCase):
    def test_one_number_off_at_any_tied_place(self):
        r, rows = told(SETUP, 2, 3)
        for e in range(5):
            choice = [[3 * place - 4 for place in range(2 + e)], [7 - place for place in range(2 + e)]]
            filling = reference.filling_of(choice, (r, rows), 2, e)
            for u in (0, 1):
                for place in range(2 + e):
                    for off in (-6, -1, 1, 2, 3):
                        changed = [list(row) for row in filling]
                        changed[u][place] += off
                        self.assertEqual(last(f"{SETUP}|{choice_call(e, changed)}"), [0], (e, u, place, off))
            # Unknown 2 is free.
            filling[2] = [number + 1 for number in filling[2]]
            self.assertEqual(last(f"{SETUP}|{choice_call(e, filling)}")[0], 1)

    def test_a_second_equation_that_does_not_hold(self):
        line = "0 1|1|1|1|2;1 0 1;1 1 1|2;1 1 1;1 2 1 0 0 1"
        self.assertEqual(last(line + "|8 0;5 5 4"), [1, 5])
        for numbers in ([5, 5, 5], [5, 4, 4], [4, 5, 4], [5, 5, 3]):
            self.assertEqual(last(f"{line}|8 0;{words(numbers)}"), [0])

    def test_more_atoms_have_no_power_in_a_base(self):
        line = "0 1|1|2;1 0 1;0 0 3"
        self.assertEqual(last(line + "|8 1;3 0"), [1])
        self.assertEqual(last(line + "|8 1;3 3"), [0])
        self.assertEqual(last(line + "|8 1;0 3"), [0])


class RefusalTest(unittest.TestCase):
    def test_e_out_of_range(self):
        for e in (-1, 5, 6, -2, BIG, -BIG):
            for length in {0, 1, 3, 6, 18, 21, max(0, min(3 * (2 + e), 100))}:
                self.assertEqual(last(f"{SETUP}|8 {e};{words([0] * length)}"), [-1], (e, length))
        for e in (-1, 5):
            self.assertEqual(last(f"0 2|8 {e};"), [-1])
            self.assertEqual(last(f"0 1|1|8 {e};{words([0] * (1 + e))}"), [-1])

    def test_one_number_too_few_and_one_too_many(self):
        for line, base_count, count in SYSTEMS:
            for e in range(5):
                right = count * (base_count + e)
                for length in (right - 1, right + 1, right + count, 2 * right + 1):
                    if length >= 0:
                        self.assertEqual(last(f"{line}|8 {e};{words([0] * length)}"), [-1], (line, e, length))
        self.assertEqual(last(f"{SETUP}|8 0;{words([0] * 10000)}"), [-1])

    def test_the_length_is_that_of_the_unknowns_there_now(self):
        self.assertEqual(ask("0 1|1|8 0;4|1|8 0;4|8 0;4 5|11|1|8 0;4 5|12|8 0;4 5")[2:],
                         [[1, 4], [1], [-1], [1, 4, 5], [1], [2], [-1], [0], [1, 4, 5]])

    def test_asking_changes_nothing(self):
        want = ask(SETUP + "|4|14")[-2:]
        for call in ("8 0;1 6 1 4 -1 4", "8 0;1 6 1 5 -1 4", "8 5;", "8 0;1"):
            self.assertEqual(ask(f"{SETUP}|{call}|4|14")[-2:], want)


if __name__ == "__main__":
    unittest.main()
