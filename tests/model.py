"""A second object with the same fifteen calls, told straight from the document's words."""

from tests import reference


class Model:
    def __init__(self):
        self.base_count = 0
        self.count = 0
        self.kept = []
        self.marks = []

    def answer(self, call, numbers=(), lists=()):
        """What the call with this number answers."""
        ways = (self.begin, self.unknown, self.equate, self.names, self.solution, self.resolve, self.same, self.normal,
                self.choice, self.blame, self.root, self.mark, self.back, self.keep, self.counts)
        return ways[call](*numbers, *lists)

    def size(self):
        return self.base_count, self.count

    def equation(self, left, right):
        return reference.equation_of(left, right, *self.size())

    def equations(self):
        return [self.equation(left, right) for left, right in self.kept]

    def told(self):
        return reference.solve(self.equations(), *self.size())

    def good(self, *terms):
        return all(reference.is_good(term, *self.size()) for term in terms)

    def begin(self, k):
        if k < 0 or k > 8:
            return [-1]
        self.base_count, self.count, self.kept, self.marks = k, 0, [], []
        return [0]

    def unknown(self):
        if self.count == 16:
            return [-2]
        self.count += 1
        return [self.count - 1]

    def equate(self, left, right):
        if not self.good(left, right):
            return [-3]
        answer = reference.equate(self.equations(), self.equation(left, right), *self.size())
        if answer == 1:
            self.kept.append((left, right))
        return [answer]

    def names(self):
        return [self.told()[0]]

    def solution(self):
        r, rows = self.told()
        return [r] + sum(rows, [])

    def resolve(self, t):
        if not self.good(t):
            return [-3]
        unknowns, bases = self.equation(t, [])
        r, rows = self.told()
        row = [0] * r + bases
        for power, told in zip(unknowns, rows):
            row = [number + power * other for number, other in zip(row, told)]
        return [r] + row

    def same(self, left, right):
        if not self.good(left, right):
            return [-3]
        return [reference.same(self.equations(), self.equation(left, right), *self.size())]

    def normal(self, ts):
        terms = reference.read_terms(ts)
        if terms is None:
            return [-1]
        if not self.good(*terms):
            return [-3]
        v, rows = reference.normal(self.equations(), [self.equation(term, []) for term in terms], *self.size())
        return [v] + sum(rows, [])

    def choice(self, e, numbers):
        width = self.base_count + e
        if e < 0 or e > 4 or len(numbers) != self.count * width:
            return [-1]
        filling = [list(numbers[u * width:(u + 1) * width]) for u in range(self.count)]
        for left, right in self.kept:
            if reference.value(left, filling, width) != reference.value(right, filling, width):
                return [0]
        choice = reference.choice_of(filling, self.told(), self.base_count, e)
        assert reference.filling_of(choice, self.told(), self.base_count, e) == filling
        return [1] + sum(choice, [])

    def blame(self, left, right):
        if not self.good(left, right):
            return [-3]
        return reference.blame(self.equations(), self.equation(left, right), *self.size())

    def root(self, d, t):
        if not self.good(t):
            return [-3]
        if d < 2 or d > 9:
            return [-1]
        return reference.root(self.equations(), self.equation(t, []), d, *self.size())

    def mark(self):
        if len(self.marks) == 8:
            return [-2]
        self.marks.append((self.base_count, self.count, list(self.kept)))
        return [len(self.marks)]

    def back(self):
        if not self.marks:
            return [-5]
        self.base_count, self.count, self.kept = self.marks.pop()
        return [len(self.marks)]

    def keep(self):
        if not self.marks:
            return [-5]
        self.marks.pop()
        return [len(self.marks)]

    def counts(self):
        return [self.base_count, self.count, len(self.kept), len(self.marks)]
