"""Promises 1 and 2: begin and unknown."""

import unittest

from tests.lines import ask, last, write
from tests.samples import BIG


class BeginTest(unittest.TestCase):
    def test_every_count_of_bases_from_0_to_8(self):
        for k in range(9):
            self.assertEqual(ask(f"0 {k}|3|4"), [[0], [0], [0]])
            # The last base is there, the one behind it isn't.
            self.assertEqual(last(f"0 {k}|5;0 {k} 1"), [-3])
            if k > 0:
                self.assertEqual(last(f"0 {k}|5;0 {k - 1} 1"), [0] + [0] * (k - 1) + [1])

    def test_counts_out_of_range(self):
        for k in (-1, 9, 10, BIG, -BIG):
            self.assertEqual(ask(f"0 {k}"), [[-1]])

    def test_a_refused_begin_changes_nothing(self):
        setup = "0 2|1|1|2;1 0 2 0 0 1;1 1 3"
        want = last(setup + "|4")
        for k in (-1, 9, BIG, -BIG):
            self.assertEqual(ask(f"{setup}|0 {k}|4")[-2:], [[-1], want])

    def test_begin_forgets_unknowns_and_equations(self):
        self.assertEqual(write("0 2|1|1|2;1 0 1;|4|0 1|4|5;1 0 1|1|4"), "0|0|1|1|1 0 0 0 1 0 0|0|0|-3|0|1 1 0")

    def test_begin_with_fewer_and_with_more_bases(self):
        self.assertEqual(write("0 3|0 1|5;0 1 1|0 2|5;0 1 1"), "0|0|-3|0|0 0 1")

    def test_a_new_object_has_nothing(self):
        self.assertEqual(write("3|4|5;|6;;|7;|2;;|5;0 0 1|5;1 0 1"), "0|0|0|1|0|0|-3|-3")


class UnknownTest(unittest.TestCase):
    def test_numbers_from_0_to_15_then_refused(self):
        line = "|".join(["1"] * 18)
        self.assertEqual(ask(line), [[number] for number in range(16)] + [[-2], [-2]])

    def test_a_refused_unknown_changes_nothing(self):
        line = "0 1|" + "|".join(["1"] * 16) + "|4|1|4|5;1 15 1|5;1 16 1"
        found = ask(line)
        self.assertEqual(found[-4], [-2])
        self.assertEqual(found[-5], found[-3])
        self.assertEqual(found[-2], [16] + [0] * 15 + [1, 0])
        self.assertEqual(found[-1], [-3])

    def test_begin_gives_room_again(self):
        line = "|".join(["1"] * 17) + "|0 8|1"
        self.assertEqual(ask(line)[-3:], [[-2], [0], [0]])

    def test_unknowns_without_bases(self):
        self.assertEqual(write("0 0|1|1|4"), "0|0|1|2 1 0 0 1")

    def test_an_unknown_made_after_equations_is_free(self):
        line = "0 1|1|1|2;1 0 2;1 1 3 0 0 1|4|1|3|4|6;1 2 1;1 0 1"
        self.assertEqual(write(line), "0|0|1|1|1 3 2 2 1|2|2|2 3 0 2 2 0 1 0 1 0|2")

    def test_an_unknown_made_after_all_others_are_fixed(self):
        line = "0 1|1|2;1 0 1;0 0 5|4|1|4|2;1 1 1;1 0 2|4"
        self.assertEqual(write(line), "0|0|1|0 5|1|1 0 5 1 0|1|0 5 10")


if __name__ == "__main__":
    unittest.main()
