"""Which kept equations an impossible equation quarrels with.

Equations are held here by a row for each unknown and for each base, with its
powers in one equation after the other. They can hold together if the rows of
the bases are sums of multiples of the unknowns' rows, and the first so many of
them can if that's so up to there.
"""

from measures.staircase import combined, home, reduced, staircase, transposed
from measures.terms import BASE, UNKNOWN, summed_powers


def powers_of(system, term):
    """The good term's powers of the unknowns and then of the bases, as they stand in it."""
    unknown_powers = summed_powers(term, UNKNOWN, system.unknown_count)
    return unknown_powers + summed_powers(term, BASE, system.base_count)


def equation_powers(system, left, right):
    """The powers of left less those of right."""
    return combined(1, powers_of(system, left), -1, powers_of(system, right))


def moved_ahead(rows, place, target):
    """The rows with the number at place brought ahead to target, and without what stands behind place."""
    return [row[:target] + [row[place]] + row[target:place] for row in rows]


def blamed_places(system, left, right):
    """The places of the kept equations with which left = right, which can't hold beside them, quarrels.

    Going from the last to the first, an equation stays if those before it and those that stay already can
    hold together without it. So with those that stay put ahead of the others, the next one that stays is
    the first that can't hold together with what's ahead of it.
    """
    equations = [equation_powers(system, left, right)]
    equations.extend([equation_powers(system, pair[0], pair[1]) for pair in system.kept])
    rows = transposed(equations, system.unknown_count + system.base_count)
    stairs = staircase(rows[:system.unknown_count])
    rests = [reduced(row, stairs) for row in rows[system.unknown_count:]]
    # How many stand ahead: the impossible equation itself and those that stay.
    ahead = 1
    quarrel = min([home(rest) for rest in rests])
    places = []
    while quarrel >= ahead:
        places.insert(0, quarrel - ahead)
        stairs = staircase(moved_ahead(stairs, quarrel, ahead))
        rests = [reduced(row, stairs) for row in moved_ahead(rests, quarrel, ahead)]
        ahead += 1
        quarrel = min([home(rest) for rest in rests])
    return places
