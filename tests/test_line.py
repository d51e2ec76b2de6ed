"""The interface: a list of calls and the list of its answers."""

import unittest

from measures.system import answers
from tests.lines import ask, decode, encode, write


class LineTest(unittest.TestCase):
    def test_the_line_under_examples(self):
        line = "0 2|1|1|1|2;1 0 2 0 0 1;1 1 3|4|3|14|7;2 1 1 1 0 1 1 1 1 0 2|10 2;1 0 2"
        self.assertEqual(write(line), "0|0|1|2|1|2 3 0 1 0 2 0 1 0 0 1 0 0|2|2 3 1 0|1 2 1 1 6 2 0|1 3 0 1 0")

    def test_the_numbers_as_they_are_handed_in_and_given_back(self):
        calls = [0, 1, 1, 2, 3, 1, 0, 1, 3, 0, 0, 4, 4, 5, 3, 1, 0, 2, 6, 0, 0, 7, 4, 1, 1, 0, 1, 3, 0, 9]
        want = [1, 0, 1, 0, 1, 1, 2, 0, 4, 2, 0, 8, 1, 1, 2, 0, 4, 1, 0, 1, -1]
        self.assertEqual(answers(calls), want)

    def test_the_later_calls_as_they_are_handed_in_and_given_back(self):
        calls = [0, 1, 1, 11, 2, 3, 1, 0, 1, 3, 0, 0, 4, 8, 1, 2, 4, 0, 9, 3, 1, 0, 1, 0, 10, 2, 3, 1, 0, 1, 14, 12, 14,
                 11, 13, 12]
        want = [1, 0, 1, 0, 1, 1, 1, 1, 1, 1, 2, 1, 0, 2, 1, 2, 4, 1, 1, 1, 1, 1, 0, 4, 1, 1, 0, 0, 1, 1, 1, 0, 1, -5]
        self.assertEqual(answers(calls), want)

    def test_400_calls(self):
        line = "|".join(["0 8"] + ["1"] * 16 + ["4"] * 383)
        found = ask(line)
        self.assertEqual(len(found), 400)
        self.assertEqual(len(found[-1]), 1 + 16 * 24)
        self.assertEqual(found[17:], [found[-1]] * 383)

    def test_many_systems_behind_one_another(self):
        one = "0 2|1|1|1|2;1 0 2 0 0 1;1 1 3|4|3|7;2 1 1 1 0 1 1 1 1 0 2"
        found = ask("|".join([one] * 50))
        self.assertEqual(found, ask(one) * 50)

    def test_what_is_handed_in_stays_as_it_was(self):
        calls = encode("0 2|1|1|1|11|2;1 0 2 0 0 1;1 1 3|4|7;2 1 1 1 0 1 1 1 1 0 2|5;1 0 1|6;;|2;0 0 1;|7;1"
                       "|8 0;1 6 1 4 -1 4|9;1 0 2;1 1 3|10 2;1 0 2|14|13|11|12|12|3")
        before = list(calls)
        answers(calls)
        self.assertEqual(calls, before)

    def test_nothing_is_kept_from_one_time_to_the_next(self):
        calls = encode("1|2;1 0 1;|0 1|1|1|2;1 0 2;1 1 3 0 0 1|4")
        first = answers(calls)
        first_copy = list(first)
        first.append(5)
        self.assertEqual(answers(calls), first_copy)
        self.assertEqual(answers([3]), [1, 0])

    def test_whole_numbers_are_never_true_or_false(self):
        for number in answers(encode("0 1|1|2;1 0 1;0 0 1|2;1 0 1;0 0 1|6;;|6;0 0 1;|4|5;1 0 1|7;0|3|0 9|8 0;1|8 0;0|8 9;"
                                     "|9;0 0 1;|9;1 0 1;|9;;|10 2;|10 2;0 0 1|10 1;|12|11|11|12|13|14")):
            self.assertIs(type(number), int)

    def test_refusals_are_their_numbers_alone(self):
        calls = encode("0 9|0 1|1|2;5 5 5;|2;1 0 2;0 0 1|2;0 0 1;|5;1|6;1;|7;1|7;1 5 5 5")
        self.assertEqual(answers(calls), [1, -1, 1, 0, 1, 0, 1, -3, 1, -7, 1, -4, 1, -3, 1, -3, 1, -1, 1, -3])
        calls = encode("8 5;|8 0;1|9;5;|9;;|10 2;1|10 1;|12|13")
        self.assertEqual(answers(calls), [1, -1, 1, -1, 1, -3, 1, -6, 1, -3, 1, -1, 1, -5, 1, -5])

    def test_decode_undoes_the_answers_form(self):
        self.assertEqual(decode([1, 0, 3, 1, 2, 3]), [[0], [1, 2, 3]])


if __name__ == "__main__":
    unittest.main()
