"""Systems of equations, each with its told solution.

The told solution is held the other way round than it is told: a row for each
name and for each base, with its power in unknown 0, 1, ... So the rows of the
names are a staircase, and those of the bases are reduced by it.
"""

from measures.staircase import combined, common_divisor, divided, dot, flat, reduced, staircase, transposed
from measures.terms import BASE, UNKNOWN, summed_powers

NEVER = 0
ALWAYS = 1
SOMETIMES = 2
WITH_FRACTIONS = 3


class System:
    """A system and its told solution. It isn't changed once it's made: a new one takes its place."""

    def __init__(self, base_count, unknown_count, kept, name_rows, base_rows):
        self.base_count = base_count
        self.unknown_count = unknown_count
        self.kept = kept
        self.name_rows = name_rows
        self.base_rows = base_rows


def new_system(base_count):
    """A system with no unknowns and no kept equations."""
    return System(base_count, 0, [], [], [[] for base in range(base_count)])


def with_unknown(system):
    """The system with one more unknown, which is a name of its own."""
    count = system.unknown_count
    name_rows = [row + [0] for row in system.name_rows]
    name_rows.append([0] * count + [1])
    base_rows = [row + [0] for row in system.base_rows]
    return System(system.base_count, count + 1, system.kept, name_rows, base_rows)


def resolved(system, term):
    """The good term's powers of the names and then of the bases, by the told solution."""
    powers = summed_powers(term, UNKNOWN, system.unknown_count)
    own_powers = summed_powers(term, BASE, system.base_count)
    through_names = [dot(row, powers) for row in system.name_rows]
    through_bases = [dot(row, powers) for row in system.base_rows]
    return through_names + combined(1, through_bases, 1, own_powers)


def difference(system, left, right):
    """What left resolves to less what right resolves to: the equation says that it's nothing."""
    return combined(1, resolved(system, left), -1, resolved(system, right))


def how_often(system, left, right):
    """Under which of the fillings that solve the system left = right holds.

    NEVER means not even with fractions, WITH_FRACTIONS not without them.
    """
    row = difference(system, left, right)
    name_count = len(system.name_rows)
    divisor = common_divisor(row[:name_count])
    base_powers = row[name_count:]
    if divisor == 0:
        return NEVER if any(base_powers) else ALWAYS
    if any([power % divisor for power in base_powers]):
        return WITH_FRACTIONS
    return SOMETIMES


def with_equation(system, left, right):
    """The system with left = right kept too, an equation that holds SOMETIMES."""
    row = difference(system, left, right)
    name_count = len(system.name_rows)
    # The equation's number ahead of each row: what has 0 there at the end obeys it.
    longer_names = [[power] + old for power, old in zip(row[:name_count], system.name_rows, strict=True)]
    longer_bases = [[power] + old for power, old in zip(row[name_count:], system.base_rows, strict=True)]
    stairs = staircase(longer_names)
    name_rows = [stair[1:] for stair in stairs if stair[0] == 0]
    base_rows = [reduced(longer, stairs)[1:] for longer in longer_bases]
    kept = system.kept + [(left, right)]
    return System(system.base_count, system.unknown_count, kept, name_rows, base_rows)


def told(name_rows, base_rows, count):
    """How many names there are; then for each of count unknowns or terms its powers of the names and the bases."""
    return [len(name_rows)] + flat(transposed(name_rows + base_rows, count))


def told_solution(system):
    """The told solution as it's answered."""
    return told(system.name_rows, system.base_rows, system.unknown_count)


def told_normal_form(system, terms):
    """The normal form of good terms as it's answered."""
    name_count = len(system.name_rows)
    rows = [resolved(system, term) for term in terms]
    columns = transposed(rows, name_count + system.base_count)
    stairs = staircase(columns[:name_count])
    base_rows = [reduced(column, stairs) for column in columns[name_count:]]
    return told(stairs, base_rows, len(terms))


def choice_behind(system, numbers, width):
    """A row of width numbers for each name, from which the filling comes; None if it doesn't solve the system.

    numbers are the filling's rows, width numbers for each unknown, one behind another.
    """
    filling = [numbers[unknown * width:(unknown + 1) * width] for unknown in range(system.unknown_count)]
    multiples = []
    for place, column in enumerate(transposed(filling, width)):
        rest = column
        if place < system.base_count:
            rest = combined(1, column, -1, system.base_rows[place])
        parts = divided(rest, system.name_rows)
        if any(parts[1]):
            return None
        multiples.append(parts[0])
    return transposed(multiples, len(system.name_rows))
