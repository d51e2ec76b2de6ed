"""Promise 10: blame."""

import itertools
import unittest

from tests.lines import ask, last, two_terms, write
from tests.made import Made
from tests.samples import BAD_TERMS, SETUP


class RefusalTest(unittest.TestCase):
    def test_terms_that_are_not_good(self):
        want = ask(SETUP + "|4|14")[-2:]
        for bad in BAD_TERMS:
            # The other side makes it possible, or impossible: a term that isn't good is looked at first.
            for left, right in ((bad, []), ([], bad), (bad, bad), (bad, [1, 2, 1]), ([0, 0, 1], bad)):
                line = f"{SETUP}|{two_terms(9, left, right)}|4|14"
                self.assertEqual(ask(line)[-3:], [[-3]] + want, (left[:9], right[:9]))

    def test_an_equation_that_can_hold(self):
        for call in ("9;;", "9;1 0 2 0 0 1;1 1 3", "9;1 2 1;0 0 1", "9;1 0 1;0 0 1", "9;1 0 1;1 1 1", "9;0 1 3;0 1 3",
                     "9;1 2 2;0 0 4"):
            self.assertEqual(ask(f"{SETUP}|{call}|4|14")[-3:], [[-6]] + ask(SETUP + "|4|14")[-2:], call)

    def test_without_bases_every_equation_can_hold(self):
        self.assertEqual(write("1|1|2;1 0 2;1 1 3|9;1 0 5;1 1 7|9;;|9;1 0 1;"), "0|1|1|-6|-6|-6")
        self.assertEqual(last("9;;"), [-6])


class BlamedTest(unittest.TestCase):
    def test_an_equation_that_holds_under_no_filling_at_all(self):
        for kept in ("", "|2;1 0 1;1 1 1", "|2;1 0 1;1 1 1|2;1 1 2;1 2 3|2;1 2 1;0 0 3"):
            for call in ("9;0 0 1;", "9;;0 1 -2", "9;0 0 1;0 1 1", "9;1 0 1 0 0 1;1 0 1"):
                self.assertEqual(last(f"0 2|1|1|1{kept}|{call}"), [0], (kept, call))
        self.assertEqual(last("0 1|9;0 0 1;"), [0])

    def test_an_equation_that_fractions_would_do_for_holds_under_no_filling_at_all(self):
        for kept in ("", "|2;1 0 1;1 1 1", "|2;1 0 1;1 1 1|2;1 1 2;1 2 3|2;1 2 1;0 0 2"):
            for call in ("9;1 0 2;0 0 1", "9;1 0 4;1 1 6 0 1 1", "9;1 0 3;0 0 3 0 1 2"):
                self.assertEqual(last(f"0 2|1|1|1{kept}|{call}"), [0], (kept, call))

    def test_some_of_the_kept_equations_and_not_others(self):
        setup = "0 1|1|1|1|1|1|2;1 0 1;1 1 1|2;1 3 1;1 4 2|2;1 1 1;1 2 1 0 0 1|2;1 2 2;1 3 3"
        self.assertEqual(last(setup + "|9;1 0 1;1 2 1"), [2, 0, 2])
        self.assertEqual(last(setup + "|9;1 1 1;1 2 1"), [1, 2])
        self.assertEqual(last(setup + "|9;1 0 1;1 1 1 0 0 1"), [1, 0])
        self.assertEqual(last(setup + "|9;1 2 1;1 4 3 0 0 3"), [2, 1, 3])
        self.assertEqual(last(setup + "|9;1 0 1;1 4 3 0 0 4"), [4, 0, 1, 2, 3])
        self.assertEqual(last(setup + "|9;1 0 1;1 4 3"), [3, 0, 2, 3])

    def test_quarrels_that_fractions_would_settle(self):
        setup = "0 1|1|1|1|1|2;1 0 1;1 1 2|2;1 2 1;1 3 3|2;1 0 1;1 2 1"
        self.assertEqual(last(setup + "|9;1 0 1;0 0 3"), [1, 0])
        self.assertEqual(last(setup + "|9;1 0 1;0 0 2"), [2, 1, 2])
        self.assertEqual(last(setup + "|9;1 2 1;0 0 2"), [1, 1])
        self.assertEqual(last(setup + "|9;1 2 1;0 0 3"), [2, 0, 2])
        self.assertEqual(last(setup + "|9;1 0 1;0 0 6"), [-6])

    def test_the_order_of_the_kept_equations_decides(self):
        # "x = base 0" quarrels with "x = the square of v", and with "x = y" and "y = the square of z" together.
        square = "2;1 0 1;1 3 2"
        tie = "2;1 0 1;1 1 1"
        other = "2;1 1 1;1 2 2"
        for order, want in (((tie, other, square), [2, 0, 1]), ((other, tie, square), [2, 0, 1]),
                            ((square, tie, other), [1, 0]), ((square, other, tie), [1, 0]),
                            ((tie, square, other), [1, 1]), ((other, square, tie), [1, 1])):
            self.assertEqual(last("0 1|1|1|1|1|" + "|".join(order) + "|9;1 0 1;0 0 1"), want, order)

    def test_of_equals_the_first_kept_is_blamed(self):
        setup = "0 1|1|1|1|1|2;1 0 1;1 1 2|2;1 0 1;1 2 3|2;1 0 1;1 3 6"
        self.assertEqual(last(setup + "|9;1 0 1;0 0 1"), [1, 0])
        self.assertEqual(last(setup + "|9;1 0 1;0 0 2"), [1, 1])
        self.assertEqual(last(setup + "|9;1 0 1;0 0 3"), [1, 0])
        # Kept the other way round, the sixth power is there first.
        setup = "0 1|1|1|1|1|2;1 0 1;1 3 6|2;1 0 1;1 2 3|2;1 0 1;1 1 2"
        for power in (1, 2, 3):
            self.assertEqual(last(f"{setup}|9;1 0 1;0 0 {power}"), [1, 0])

    def test_all_of_16(self):
        equations = [f"2;1 {u} 1;1 {u + 1} 1" for u in range(15)] + ["2;1 15 1;0 0 1"]
        line = "0 8|" + "|".join(["1"] * 16 + equations)
        self.assertEqual(last(line + "|9;1 0 1;"), [16] + list(range(16)))
        self.assertEqual(last(line + "|9;1 5 1;"), [11] + list(range(5, 16)))
        self.assertEqual(last(line + "|9;1 3 1;1 7 1 0 7 1"), [4, 3, 4, 5, 6])
        self.assertEqual(last(line + "|9;1 0 99;0 0 98"), [0])
        self.assertEqual(last(line + "|9;1 0 99;0 0 99"), [-6])

    def test_only_kept_equations_have_places(self):
        # Refused equations and those that say nothing new aren't counted.
        line = "0 1|1|1|2;1 0 2;0 0 1|2;1 0 1;1 0 1|2;1 0 1;1 1 1|2;1 1 1;1 0 1|2;0 0 1;|2;1 1 1;0 0 1"
        self.assertEqual(last(line + "|9;1 0 1;"), [2, 0, 1])
        self.assertEqual(last(line + "|9;1 1 1;"), [1, 1])

    def test_unknowns_made_since(self):
        line = "0 1|1|2;1 0 1;0 0 1|1|2;1 1 1;1 0 2|1|2;1 2 1;1 1 2|1"
        self.assertEqual(last(line + "|9;1 2 1;"), [3, 0, 1, 2])
        self.assertEqual(last(line + "|9;1 2 1 1 3 1;1 3 1"), [3, 0, 1, 2])
        self.assertEqual(last(line + "|9;1 1 1;0 0 4"), [2, 0, 1])
        # The first equation isn't needed: unknown 2 is a fourth power, and base 0 squared isn't.
        self.assertEqual(last(line + "|9;1 2 1;0 0 2"), [2, 1, 2])
        self.assertEqual(last(line + "|9;1 2 1;0 0 3"), [1, 2])

    def test_nothing_changes_by_it(self):
        setup = "0 1|1|1|1|2;1 0 1;1 1 1|2;1 1 1;1 2 1 0 0 1"
        want = ask(setup + "|4|14|3|2;1 0 1;0 0 1|4")[-5:]
        for call in ("9;1 0 1;1 2 1", "9;0 0 1;", "9;1 0 2;0 0 1", "9;1 0 1;0 0 1", "9;1;"):
            found = ask(f"{setup}|{call}|{call}|4|14|3|2;1 0 1;0 0 1|4")
            self.assertEqual(found[-5:], want)
            self.assertEqual(found[-6], found[-7])


class WordsTest(unittest.TestCase):
    """What's blamed on made-up systems, held against what equate answers for the blamed equations alone."""

    def made(self, seed):
        made = Made(seed, most_unknowns=5, most_factors=3, most_power=3)
        for step in range(9):
            made.equate()
        return made, [call for call, want in zip(made.calls, made.want) if call[0] == "2" and want == [1]]

    def refused(self, made, equations, call):
        start = [f"0 {made.model.base_count}"] + ["1"] * made.model.count
        return last("|".join(start + equations + ["2" + call[1:]]))[0] < 0

    def test_the_blamed_refuse_it_and_without_any_one_of_them_it_can_hold(self):
        sizes = set()
        for seed in range(150):
            made, kept = self.made(seed)
            for step in range(4):
                made.ask_blame()
                found = last("|".join(made.calls))
                self.assertEqual(found, made.want[-1])
                if found[0] >= 0:
                    blamed = [kept[place] for place in found[1:]]
                    self.assertTrue(self.refused(made, blamed, made.calls[-1]))
                    for fewer in itertools.combinations(blamed, max(0, len(blamed) - 1)):
                        if len(fewer) < len(blamed):
                            self.assertFalse(self.refused(made, list(fewer), made.calls[-1]))
                sizes.add(found[0])
        self.assertTrue({-6, 0, 1, 2, 3} <= sizes, sizes)


if __name__ == "__main__":
    unittest.main()
