"""Promises 12 to 15: mark, back, keep and count; and promise 1 once more, begin with marks there."""

import unittest

from tests.lines import ask, last, write
from tests.samples import SETUP

# What tells all of an object but its marks: solution, and blame of what quarrels with each equation kept in TIES.
ALL_OF_IT = "4|3|9;1 0 1;1 1 1 0 0 1|9;1 1 1;1 2 1|9;1 0 1;1 2 1|9;1 2 1;0 0 9|6;1 0 1;1 2 1|7;1 1 0 1 1 1 2 2"
TIES = "0 1|1|1|1|2;1 0 1;1 1 1|2;1 1 1;1 2 1 0 0 1"


class MarkTest(unittest.TestCase):
    def test_8_marks_and_the_ninth(self):
        found = ask("|".join(["11"] * 10 + ["14"]))
        self.assertEqual(found, [[number] for number in range(1, 9)] + [[-2], [-2], [0, 0, 0, 8]])

    def test_a_refused_mark_changes_nothing(self):
        line = "|".join([TIES] + ["11"] * 8)
        want = ask(f"{line}|14|{ALL_OF_IT}|12|14|{ALL_OF_IT}")[14:]
        self.assertEqual(ask(f"{line}|11|14|{ALL_OF_IT}|12|14|{ALL_OF_IT}")[14:], [[-2]] + want)

    def test_room_again_after_back_and_after_keep(self):
        marks = "|".join(["11"] * 8)
        for call in ("12", "13"):
            self.assertEqual(ask(f"{marks}|{call}|11|11")[8:], [[7], [8], [-2]])

    def test_the_ninth_is_not_put_in_the_place_of_another(self):
        # After the refused mark the last one is still that with two unknowns.
        line = "|".join(["1"] + ["11"] * 7 + ["1", "11", "1", "11", "14", "12", "14"])
        self.assertEqual(ask(line)[-4:], [[-2], [0, 3, 0, 8], [7], [0, 2, 0, 7]])

    def test_a_mark_changes_nothing_else(self):
        self.assertEqual(ask(f"{TIES}|11|{ALL_OF_IT}")[7:], ask(f"{TIES}|{ALL_OF_IT}")[6:])


class BackTest(unittest.TestCase):
    def test_without_a_mark(self):
        self.assertEqual(write("12|14"), "-5|0 0 0 0")
        self.assertEqual(write("11|12|12|14"), "1|0|-5|0 0 0 0")
        self.assertEqual(ask(f"{TIES}|12|{ALL_OF_IT}")[6:], [[-5]] + ask(f"{TIES}|{ALL_OF_IT}")[6:])

    def test_unknowns_and_equations_since_are_gone(self):
        line = "0 1|1|11|1|2;1 1 1;1 0 2|1|2;1 2 1;0 0 1|14|4|12|14|4|5;1 1 1|1|4"
        self.assertEqual(write(line), "0|0|1|1|1|2|1|1 3 2 1|1 1 0 2 0 0 1|0|1 1 0 0|1 1 0|-3|1|2 1 0 0 0 1 0")

    def test_what_is_answered_is_what_was_answered_at_the_mark(self):
        want = ask(f"{TIES}|14|{ALL_OF_IT}")[6:]
        for since in ("1", "2;1 2 1;0 0 1", "1|2;1 3 2;1 0 3|2;1 3 1;0 0 3", "1|1|2;1 4 1;1 3 1|9;1 4 1;1 3 1 0 0 1",
                      "2;1 0 1;0 0 4|2;1 0 1;0 0 5", "", "8 0;1 1 0|10 2;1 0 2", "11|1|2;1 2 1;|13", "11|1|12"):
            found = ask("|".join([part for part in (TIES, "11", since, "12", "14", ALL_OF_IT) if part]))
            self.assertEqual(found[-len(want):], want, since)

    def test_after_back_it_goes_on_as_if_nothing_had_been(self):
        after = f"2;1 2 1;0 0 2|1|2;1 3 2;1 0 2|14|{ALL_OF_IT}|9;1 3 1;"
        want = ask(f"{TIES}|{after}")[6:]
        self.assertEqual(ask(f"{TIES}|11|1|2;1 3 1;1 2 5|2;1 0 1;|12|{after}")[11:], want)

    def test_an_impossible_equation_is_possible_again(self):
        self.assertEqual(write("0 1|1|11|2;1 0 1;0 0 1|2;1 0 1;0 0 2|9;1 0 1;0 0 2|12|2;1 0 1;0 0 2|4"),
                         "0|0|1|1|-4|1 0|0|1|0 2")

    def test_16_unknowns_and_room_again(self):
        line = "|".join(["1"] * 15 + ["11", "1", "1", "12", "1", "1"])
        self.assertEqual(ask(line)[15:], [[1], [15], [-2], [0], [15], [-2]])

    def test_marks_within_marks(self):
        line = "0 1|1|11|1|11|1|11|2;1 0 1;1 2 1|14|12|14|12|14|12|14|12"
        self.assertEqual(write(line), "0|0|1|1|2|2|3|1|1 3 1 3|2|1 3 0 2|1|1 2 0 1|0|1 1 0 0|-5")

    def test_the_same_moment_marked_twice(self):
        line = SETUP + "|11|11|2;1 2 1;1 0 1|12|4|2;1 2 1;0 1 1|12|4|14"
        found = ask(line)
        want = last(SETUP + "|4")
        self.assertEqual([found[-5], found[-2], found[-1]], [want, want, [2, 3, 1, 0]])


class KeepTest(unittest.TestCase):
    def test_without_a_mark(self):
        self.assertEqual(write("13|14"), "-5|0 0 0 0")
        self.assertEqual(write("11|13|13|12"), "1|0|-5|-5")
        self.assertEqual(ask(f"{TIES}|13|{ALL_OF_IT}")[6:], [[-5]] + ask(f"{TIES}|{ALL_OF_IT}")[6:])

    def test_unknowns_and_equations_since_are_still_there(self):
        line = "0 1|1|11|1|2;1 1 1;1 0 2|13|14|4|9;1 1 1;1 0 2 0 0 1"
        self.assertEqual(write(line), "0|0|1|1|1|0|1 2 1 0|1 1 0 2 0|1 0")

    def test_what_is_answered_is_what_is_answered_without_the_mark(self):
        since = "1|2;1 3 2;1 0 2|2;1 2 1;0 0 2"
        want = ask(f"{TIES}|{since}|14|{ALL_OF_IT}")[9:]
        self.assertEqual(ask(f"{TIES}|11|{since}|13|14|{ALL_OF_IT}")[11:], want)

    def test_the_last_mark_is_taken_away_and_not_the_first(self):
        line = "0 1|1|11|1|11|1|13|14|12|14"
        self.assertEqual(write(line), "0|0|1|1|2|2|1|1 3 0 1|0|1 1 0 0")

    def test_back_over_what_was_kept(self):
        line = "0 1|1|11|2;1 0 1;0 0 1|11|1|2;1 1 1;1 0 1|13|14|12|14|4"
        self.assertEqual(write(line), "0|0|1|1|2|1|1|1|1 2 2 1|0|1 1 0 0|1 1 0")


class CountTest(unittest.TestCase):
    def test_a_new_object(self):
        self.assertEqual(ask("14"), [[0, 0, 0, 0]])

    def test_each_of_its_numbers(self):
        line = "0 3|14|1|14|1|1|14|2;1 0 1;1 1 1|14|2;1 1 1;0 2 1|14|11|14|11|14|13|14|12|14"
        found = [answer for answer in ask(line) if len(answer) == 4]
        self.assertEqual(found, [[3, 0, 0, 0], [3, 1, 0, 0], [3, 3, 0, 0], [3, 3, 1, 0], [3, 3, 2, 0], [3, 3, 2, 1],
                                 [3, 3, 2, 2], [3, 3, 2, 1], [3, 3, 2, 0]])

    def test_at_the_edges(self):
        equations = [f"2;1 {u} 2;1 {(u + 1) % 16} 3" for u in range(16)]
        line = "|".join(["0 8"] + ["1"] * 17 + equations + ["2;1 3 1;1 4 1"] + ["11"] * 9 + ["14"])
        self.assertEqual(last(line), [8, 16, 16, 8])

    def test_refusals_and_questions_change_nothing(self):
        for call in ("0 9", "0 -1", "2;1 0 2;1 1 3", "2;0 0 1;", "2;1 2 2;0 0 1", "2;1 9 1;", "3", "4", "5;1 0 1", "5;1",
                     "6;1 0 1;", "6;1;", "7;1 1 0 1", "7;1", "7;1 3 3 3", "8 0;0 0 0 0 0 0", "8 9;", "9;0 0 1;", "9;;",
                     "9;1;", "10 2;1 0 2", "10 2;1 0 1", "10 1;", "10 2;1", "14"):
            self.assertEqual(ask(f"{SETUP}|11|{call}|14|4")[7:], [[2, 3, 1, 1], last(SETUP + "|4")], call)
        for call in ("12", "13"):
            self.assertEqual(ask(f"{SETUP}|{call}|14|4")[5:], [[-5], [2, 3, 1, 0], last(SETUP + "|4")])


class BeginTest(unittest.TestCase):
    def test_begin_leaves_no_marks(self):
        self.assertEqual(write("1|11|11|0 2|14|12|13|11|14"), "0|1|2|0|2 0 0 0|-5|-5|1|2 0 0 1")
        self.assertEqual(ask("|".join(["11"] * 8 + ["0 0", "11", "14"]))[8:], [[0], [1], [0, 0, 0, 1]])

    def test_a_refused_begin_leaves_the_marks(self):
        self.assertEqual(write("1|11|1|0 9|14|0 -1|12|14"), "0|1|1|-1|0 2 0 1|-1|0|0 1 0 0")


if __name__ == "__main__":
    unittest.main()
