"""All promises on many made-up systems: against a second way, and against the document's words (a) to (d)."""

import itertools
import unittest

from tests.lines import ask, split_rows
from tests.made import Made


class SecondWayTest(unittest.TestCase):
    def check(self, made, steps):
        for step in range(steps):
            made.step()
            made.add(3)
            made.add(4)
        line = "|".join(made.calls)
        for call, answer, want in zip(made.calls, ask(line), made.want):
            self.assertEqual(answer, want, (call, line))

    def test_small_systems(self):
        seen = set()
        for seed in range(300):
            made = Made(seed)
            self.check(made, 12)
            for call, want in zip(made.calls, made.want):
                if call[:2] in ("2;", "6;", "8 ", "10"):
                    seen.add((call[:2].strip(" ;"), want[0]))
        # The made-up lines are worth something only if they come upon every kind of answer.
        self.assertEqual(seen, {("2", 1), ("2", 0), ("2", -4), ("2", -7), ("6", 0), ("6", 1), ("6", 2),
                                ("8", 0), ("8", 1), ("10", 0), ("10", 1)})

    def test_tight_systems(self):
        for seed in range(150):
            self.check(Made(1000 + seed, most_unknowns=3, most_factors=3, most_power=2), 15)

    def test_large_systems(self):
        for seed in range(12):
            self.check(Made(2000 + seed, most_unknowns=12, most_factors=24, most_power=99), 12)


class WordsTest(unittest.TestCase):
    """The told solution held against (a) to (d) as they stand."""

    def made(self, seed):
        made = Made(3000 + seed, most_unknowns=4, most_factors=4, most_power=3)
        for step in range(6):
            made.equate()
        answer = ask("|".join(made.calls + ["4"]))[-1]
        return made, split_rows(answer, made.model.base_count, made.model.count)

    def test_homes_pivots_and_ranges(self):
        for seed in range(200):
            made, (r, rows) = self.made(seed)
            homes = [min(u for u in range(made.model.count) if rows[u][name] != 0) for name in range(r)]
            self.assertEqual(homes, sorted(set(homes)))
            for name, home in enumerate(homes):
                pivot = rows[home][name]
                self.assertGreater(pivot, 0)
                for number in rows[home][:name] + rows[home][r:]:
                    self.assertTrue(0 <= number < pivot)

    def test_every_choice_solves_and_every_small_filling_that_solves_comes_from_one(self):
        for seed in range(60):
            made, (r, rows) = self.made(seed)
            # Place by place: the bases' places, and one further atom's, where the bases have no power.
            for place in range(made.model.base_count + 1):
                self.check_place(made, r, rows, place)

    def check_place(self, made, r, rows, place):
        is_base = place < made.model.base_count

        def solves(filling):
            return all(sum(power * number for power, number in zip(unknowns, filling)) ==
                       (-bases[place] if is_base else 0) for unknowns, bases in made.model.equations())

        def comes_from(choice):
            return tuple(sum(power * number for power, number in zip(row, choice)) + (row[r + place] if is_base else 0)
                         for row in rows)

        for choice in itertools.product(range(-1, 2), repeat=r):
            self.assertTrue(solves(comes_from(choice)))
        for filling in itertools.product(range(-3, 4), repeat=made.model.count):
            if solves(filling):
                self.assertEqual(filling, comes_from(self.choice_for(filling, r, rows, place, is_base)))

    def choice_for(self, filling, r, rows, place, is_base):
        """The one choice there can be: read off at the homes, from the first name to the last."""
        choice = []
        for name in range(r):
            home = min(u for u in range(len(rows)) if rows[u][name] != 0)
            rest = filling[home] - (rows[home][r + place] if is_base else 0)
            rest -= sum(power * number for power, number in zip(rows[home], choice))
            self.assertEqual(rest % rows[home][name], 0)
            choice.append(rest // rows[home][name])
        return choice

    def test_the_same_told_solution_in_every_order(self):
        for seed in range(80):
            made, told = self.made(seed)
            accepted = [call for call, want in zip(made.calls, made.want) if call[0] == "2" and want == [1]]
            start = [f"0 {made.model.base_count}"] + ["1"] * made.model.count
            for order in itertools.permutations(accepted):
                answer = ask("|".join(start + list(order) + ["4"]))[-1]
                self.assertEqual(split_rows(answer, made.model.base_count, made.model.count), told)


if __name__ == "__main__":
    unittest.main()
