"""Promise 7: same."""

import unittest

from tests.lines import ask, last, two_terms
from tests.samples import BAD_TERMS, SETUP


class SameTest(unittest.TestCase):
    def test_always(self):
        for call in ("6;;", "6;0 1 3;0 1 3", "6;1 0 2 0 0 1;1 1 3", "6;1 1 3;1 0 2 0 0 1", "6;1 0 4 0 0 2;1 1 6",
                     "6;1 2 1;1 2 2 1 2 -1", "6;1 2 0;0 0 0"):
            self.assertEqual(last(f"{SETUP}|{call}"), [1], call)

    def test_never_not_even_with_fractions(self):
        for call in ("6;0 0 1;", "6;0 0 1;0 1 1", "6;1 0 2;1 1 3", "6;1 0 2 0 1 1;1 1 3"):
            self.assertEqual(last(f"{SETUP}|{call}"), [0], call)

    def test_never_but_with_fractions(self):
        for call in ("6;1 2 2;0 0 1", "6;1 0 1;", "6;1 0 1;0 0 3", "6;1 2 3 1 0 1;0 1 2"):
            self.assertEqual(last(f"{SETUP}|{call}"), [0], call)

    def test_sometimes(self):
        for call in ("6;1 2 1;0 0 1", "6;1 0 1;0 0 1", "6;1 0 1;0 0 -2", "6;1 0 1;1 1 1", "6;1 2 1;", "6;;1 2 1"):
            self.assertEqual(last(f"{SETUP}|{call}"), [2], call)

    def test_without_bases_every_equation_holds_at_least_sometimes(self):
        self.assertEqual(ask("1|6;1 0 2;|6;1 0 1;1 0 1|6;;")[1:], [[2], [1], [1]])

    def test_asking_keeps_nothing(self):
        want = last(SETUP + "|4")
        self.assertEqual(ask(SETUP + "|6;1 2 1;0 0 1|6;1 2 1;0 0 1|4")[-3:], [[2], [2], want])

    def test_after_the_equation_is_kept_it_holds_always(self):
        self.assertEqual(ask(SETUP + "|6;1 2 1;1 0 1|2;1 2 1;1 0 1|6;1 2 1;1 0 1")[-3:], [[2], [1], [1]])

    def test_terms_that_are_not_good(self):
        want = last(SETUP + "|4")
        for bad in BAD_TERMS:
            for left, right in ((bad, []), ([], bad), (bad, bad), (bad, [0, 0, 1])):
                line = f"{SETUP}|{two_terms(6, left, right)}|4"
                self.assertEqual(ask(line)[-2:], [[-3], want], (left[:9], right[:9]))


if __name__ == "__main__":
    unittest.main()
