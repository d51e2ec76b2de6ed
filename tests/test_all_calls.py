"""All fifteen calls in any order on one object, against the second object that's told from the words."""

import unittest

from measures.system import answers
from tests.lines import ask, decode, encode
from tests.made import Made
from tests.samples import BIG


def long_line(seed, **sizes):
    """A made-up line of just 400 calls of all sorts, wrong inputs among them."""
    made = Made(seed, **sizes)
    while len(made.calls) < 400:
        sort = made.rng.randrange(60)
        if sort == 0:
            made.begin()
        elif sort < 6:
            made.rng.choice([made.ask_names, made.ask_solution])()
        else:
            made.step()
    made.calls = made.calls[:400]
    made.want = made.want[:400]
    return made


class LongLineTest(unittest.TestCase):
    def check(self, made):
        calls = encode("|".join(made.calls))
        self.assertLessEqual(len(calls), 17000)
        before = list(calls)
        told = answers(calls)
        self.assertEqual(calls, before)
        for call, answer, want in zip(made.calls, decode(told), made.want, strict=True):
            self.assertEqual(answer, want, (call, made.calls))
        self.assertEqual(answers(calls), told)
        self.assertTrue(all(number.__class__ is int for number in told))

    def test_400_calls_of_all_fifteen_sorts(self):
        seen = set()
        for seed in range(25):
            made = long_line(seed, wrong=6)
            self.check(made)
            self.assertEqual({int(call.replace(";", " ").split()[0]) for call in made.calls}, set(range(15)))
            seen.update((int(call.replace(";", " ").split()[0]), want[0]) for call, want in zip(made.calls, made.want))
        # The lines are worth something only if they come upon every refusal and every kind of answer.
        wanted = {(0, -1), (0, 0), (2, -3), (2, -4), (2, -7), (2, 0), (2, 1), (5, -3), (6, -3), (6, 0), (6, 1), (6, 2),
                  (7, -1), (7, -3), (8, -1), (8, 0), (8, 1), (9, -3), (9, -6), (9, 0), (9, 1), (9, 2), (10, -3),
                  (10, -1), (10, 0), (10, 1), (12, -5), (13, -5)}
        self.assertEqual(wanted - seen, set())

    def test_small_systems_in_which_much_quarrels(self):
        for seed in range(100, 120):
            self.check(long_line(seed, most_unknowns=4, most_factors=2, most_power=2))

    def test_large_systems(self):
        for seed in range(200, 206):
            made = Made(seed, most_unknowns=14, most_factors=12, most_power=30, wrong=2)
            while len(made.calls) < 90:
                made.step()
            self.check(made)


class FullLineTest(unittest.TestCase):
    def test_400_calls_at_the_edges(self):
        equations = [f"2;1 {u} 1;1 {u + 1} 1 0 {u % 8} 1" for u in range(15)] + ["2;1 15 3;0 0 99"]
        start = ["0 8"] + ["1"] * 16 + equations + ["11"] * 8
        once = ["9;1 0 1;", "9;1 15 1;0 1 1", "10 9;1 0 9", "4", "14", "3", "6;1 0 1;1 15 1", f"8 4;{BIG}", "11", "1"]
        calls = start + once * ((400 - len(start)) // len(once))
        found = ask("|".join(calls + ["12"] * (400 - len(calls))))
        self.assertEqual(len(found), 400)
        first = found[len(start):len(start) + len(once)]
        self.assertEqual(first[0], [16] + list(range(16)))
        self.assertEqual(first[1], [1, 15])
        self.assertEqual(first[2][0], 1)
        self.assertEqual(first[4:], [[8, 16, 16, 8], [0], [0], [-1], [-2], [-2]])
        for at in range(len(start), len(calls), len(once)):
            self.assertEqual(found[at:at + len(once)], first)


if __name__ == "__main__":
    unittest.main()
