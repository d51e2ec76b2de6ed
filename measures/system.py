"""The calls on an object that holds a system, and the answers to a list of calls."""

from measures.blaming import blamed_places
from measures.solving import ALWAYS, NEVER, SOMETIMES, WITH_FRACTIONS
from measures.solving import choice_behind, how_often, new_system, resolved, told_normal_form, told_solution
from measures.solving import with_equation, with_unknown
from measures.staircase import flat
from measures.terms import is_good, split_terms

OUT_OF_RANGE = -1
FULL = -2
NOT_GOOD = -3
IMPOSSIBLE = -4
NO_MARK = -5
POSSIBLE = -6
NEEDS_FRACTIONS = -7

MOST_BASES = 8
MOST_UNKNOWNS = 16
MOST_TERMS = 16
MOST_MORE_ATOMS = 4
LEAST_DIVISOR = 2
MOST_DIVISOR = 9
MOST_MARKS = 8


class Holder:
    """The object that the calls are made on."""

    def __init__(self):
        self.system = new_system(0)
        self.marks = []


def all_good(system, terms):
    """Whether each of the terms is good in the system."""
    return all([is_good(term, system.base_count, system.unknown_count) for term in terms])


# Each call is a function of the holder and of what it's given: its whole numbers, then its lists.


def begin(holder, given):
    if not 0 <= given[0] <= MOST_BASES:
        return [OUT_OF_RANGE]
    holder.system = new_system(given[0])
    holder.marks = []
    return [0]


def unknown(holder, given):
    number = holder.system.unknown_count
    if number == MOST_UNKNOWNS:
        return [FULL]
    holder.system = with_unknown(holder.system)
    return [number]


def equate(holder, given):
    if not all_good(holder.system, given):
        return [NOT_GOOD]
    holds = how_often(holder.system, given[0], given[1])
    if holds == WITH_FRACTIONS:
        return [NEEDS_FRACTIONS]
    if holds == NEVER:
        return [IMPOSSIBLE]
    if holds == ALWAYS:
        return [0]
    holder.system = with_equation(holder.system, given[0], given[1])
    return [1]


def names(holder, given):
    return [len(holder.system.name_rows)]


def solution(holder, given):
    return told_solution(holder.system)


def resolve(holder, given):
    if not all_good(holder.system, given):
        return [NOT_GOOD]
    return names(holder, []) + resolved(holder.system, given[0])


def same(holder, given):
    if not all_good(holder.system, given):
        return [NOT_GOOD]
    holds = how_often(holder.system, given[0], given[1])
    if holds == ALWAYS:
        return [1]
    return [2] if holds == SOMETIMES else [0]


def normal(holder, given):
    terms = split_terms(given[0])
    if terms is None or len(terms) > MOST_TERMS:
        return [OUT_OF_RANGE]
    if not all_good(holder.system, terms):
        return [NOT_GOOD]
    return told_normal_form(holder.system, terms)


def choice(holder, given):
    system = holder.system
    more_atoms = given[0]
    numbers = given[1]
    width = system.base_count + more_atoms
    if not 0 <= more_atoms <= MOST_MORE_ATOMS or len(numbers) != system.unknown_count * width:
        return [OUT_OF_RANGE]
    rows = choice_behind(system, numbers, width)
    return [0] if rows is None else [1] + flat(rows)


def blame(holder, given):
    if not all_good(holder.system, given):
        return [NOT_GOOD]
    holds = how_often(holder.system, given[0], given[1])
    if holds == ALWAYS or holds == SOMETIMES:
        return [POSSIBLE]
    places = blamed_places(holder.system, given[0], given[1])
    return [len(places)] + places


def root(holder, given):
    divisor = given[0]
    term = given[1]
    if not all_good(holder.system, [term]):
        return [NOT_GOOD]
    if not LEAST_DIVISOR <= divisor <= MOST_DIVISOR:
        return [OUT_OF_RANGE]
    row = resolved(holder.system, term)
    if any([number % divisor for number in row]):
        return [0]
    return [1] + [number // divisor for number in row]


def mark(holder, given):
    if len(holder.marks) == MOST_MARKS:
        return [FULL]
    # The system itself will do as a mark: it isn't changed, another one takes its place.
    holder.marks.append(holder.system)
    return [len(holder.marks)]


def back(holder, given):
    if not holder.marks:
        return [NO_MARK]
    holder.system = holder.marks.pop()
    return [len(holder.marks)]


def keep(holder, given):
    if not holder.marks:
        return [NO_MARK]
    holder.marks.pop()
    return [len(holder.marks)]


def count(holder, given):
    system = holder.system
    return [system.base_count, system.unknown_count, len(system.kept), len(holder.marks)]


# By a call's number: its function, how many whole numbers it's given, how many lists.
CALLS = {
    0: (begin, 1, 0),
    1: (unknown, 0, 0),
    2: (equate, 0, 2),
    3: (names, 0, 0),
    4: (solution, 0, 0),
    5: (resolve, 0, 1),
    6: (same, 0, 2),
    7: (normal, 0, 1),
    8: (choice, 1, 1),
    9: (blame, 0, 2),
    10: (root, 1, 1),
    11: (mark, 0, 0),
    12: (back, 0, 0),
    13: (keep, 0, 0),
    14: (count, 0, 0),
}


class Reader:
    """Goes through a list of numbers from its beginning, and doesn't change it."""

    def __init__(self, numbers):
        self.numbers = numbers
        self.place = 0

    def at_end(self):
        return self.place == len(self.numbers)

    def take_number(self):
        number = self.numbers[self.place]
        self.place += 1
        return number

    def take_list(self):
        length = self.take_number()
        start = self.place
        self.place += length
        return self.numbers[start:self.place]


def answer_call(holder, reader):
    """Read one call, do it, and give back what it answers."""
    call = CALLS[reader.take_number()]
    given = [reader.take_number() for number in range(call[1])]
    given.extend([reader.take_list() for row in range(call[2])])
    act = call[0]
    return act(holder, given)


def answers(calls):
    """For each call, in order, how many numbers it answers, and these."""
    holder = Holder()
    reader = Reader(calls)
    told = []
    while not reader.at_end():
        answer = answer_call(holder, reader)
        told.append(len(answer))
        told.extend(answer)
    return told
