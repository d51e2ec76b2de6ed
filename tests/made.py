"""Made-up lines of calls, each beside what the second object answers."""

import random

from tests import reference
from tests.lines import call_text
from tests.model import Model
from tests.samples import BIG


class Made:
    """A made-up line. It begins with bases and unknowns; equations in it may be refused."""

    def __init__(self, seed, most_unknowns=6, most_factors=5, most_power=6, wrong=0):
        self.rng = random.Random(seed)
        self.sizes = (most_unknowns, most_factors, most_power)
        # Out of a hundred, how many inputs are wrong on purpose.
        self.wrong = wrong
        self.model = Model()
        self.calls = []
        self.want = []
        self.begin()

    def add(self, call, numbers=(), lists=()):
        self.calls.append(call_text(call, numbers, lists))
        self.want.append(self.model.answer(call, list(numbers), [list(row) for row in lists]))

    def goes_wrong(self):
        return self.rng.randrange(100) < self.wrong

    def step(self):
        """One more call of any sort, those that change or tell something oftener."""
        self.rng.choice([self.equate] * 5 + [self.ask_same, self.ask_normal, self.ask_resolve, self.more] +
                        [self.ask_choice, self.ask_blame, self.ask_root] * 2 +
                        [self.mark, self.back, self.keep, self.ask_count])()

    def term(self):
        most_unknowns, most_factors, most_power = self.sizes
        counts = self.model.size()
        term = []
        for factor in range(self.rng.randint(0, most_factors)):
            sort = self.rng.choice([0, 1, 1])
            if counts[sort] > 0:
                term += [sort, self.rng.randrange(counts[sort]), self.rng.randint(-most_power, most_power)]
        if self.goes_wrong():
            term += self.rng.choice([[0], [2, 0, 1], [0, counts[0], 1], [1, counts[1], 1], [1, 0, 100], [0, 0, -BIG]])
        return term

    def begin(self):
        if self.goes_wrong():
            self.add(0, [self.rng.choice([-1, 9, BIG, -BIG])])
        self.add(0, [self.rng.randint(0, 3)])
        for number in range(self.rng.randint(0, self.sizes[0])):
            self.add(1)

    def more(self):
        self.add(1)

    def equate(self):
        self.add(2, [], [self.term(), self.term()])

    def ask_names(self):
        self.add(3)

    def ask_solution(self):
        self.add(4)

    def ask_resolve(self):
        self.add(5, [], [self.term()])

    def ask_same(self):
        self.add(6, [], [self.term(), self.term()])

    def ask_normal(self):
        terms = [self.term() for number in range(self.rng.randint(0, 5))]
        ts = sum([[len(term) // 3] + term for term in terms], [])
        if self.goes_wrong():
            ts += self.rng.choice([[-1], [1], [BIG], [0] * 17])
        self.add(7, [], [ts])

    def ask_choice(self):
        e = self.rng.randint(0, 4)
        filling = self.filling(e)
        if filling and self.rng.randrange(4) == 0:
            filling[self.rng.randrange(len(filling))] += self.rng.choice([-6, -1, 1, 2])
        if self.goes_wrong():
            filling = filling[:-1] if filling and self.rng.randrange(2) else filling + [0]
        if self.goes_wrong():
            e = self.rng.choice([-1, 5, BIG, -BIG])
        self.add(8, [e], [filling])

    def filling(self, e):
        """The numbers of a filling that solves, or, if they'd be too large, all zeros."""
        width = self.model.base_count + e
        told = self.model.told()
        most = self.rng.choice([1, 9, 10 ** 6, 10 ** 17])
        choice = [[self.rng.randint(-most, most) for place in range(width)] for name in range(told[0])]
        filling = sum(reference.filling_of(choice, told, self.model.base_count, e), [])
        return filling if all(abs(number) < BIG - 9 for number in filling) else [0] * len(filling)

    def ask_blame(self):
        """Of one or two tries the one that's impossible, if there is one."""
        pairs = [[self.term(), self.term()], [self.term(), self.term()]]
        first = self.model.blame(*pairs[0])
        self.add(9, [], pairs[0] if first[0] >= 0 else pairs[1])

    def ask_root(self):
        d = self.rng.randint(2, 9)
        term = self.term()
        if self.rng.randrange(2):
            d = self.rng.randint(2, 4)
            term = sum([term[at:at + 2] + [term[at + 2] * d] for at in range(0, len(term) - 2, 3)], [])
        if self.goes_wrong():
            d = self.rng.choice([1, 10, 0, -2, BIG, -BIG])
        self.add(10, [d], [term])

    def mark(self):
        self.add(11)

    def back(self):
        self.add(12)

    def keep(self):
        self.add(13)

    def ask_count(self):
        self.add(14)
