"""A second way to the answers: everything from scratch, from all equations at once.

An equation is a pair (powers of the unknowns, powers of the bases), each left less right.
"""

from fractions import Fraction


def is_good(term, base_count, unknown_count):
    if len(term) % 3 != 0 or len(term) > 72:
        return False
    counts = {0: base_count, 1: unknown_count}
    return all(0 <= term[at + 1] < counts.get(term[at], 0) and -99 <= term[at + 2] <= 99
               for at in range(0, len(term), 3))


def read_terms(numbers):
    """The terms that a list tells, None if it can't be read or tells more than 16."""
    terms = []
    rest = list(numbers)
    while rest:
        f = rest.pop(0)
        if f < 0 or len(rest) < 3 * f:
            return None
        terms.append(rest[:3 * f])
        rest = rest[3 * f:]
    return terms if len(terms) <= 16 else None


def value(term, filling, width):
    """The value of a term under a filling, as the document's words tell it."""
    row = [0] * width
    for at in range(0, len(term), 3):
        sort, number, power = term[at:at + 3]
        if sort == 0:
            row[number] += power
        else:
            row = [sum_so_far + power * other for sum_so_far, other in zip(row, filling[number])]
    return row


def filling_of(choice, told, base_count, e):
    """The filling that comes from a choice by the told solution, as (a) tells it."""
    r, rows = told
    filling = []
    for row in rows:
        filled = row[r:] + [0] * e
        for power, chosen in zip(row, choice):
            filled = [number + power * other for number, other in zip(filled, chosen)]
        filling.append(filled)
    return filling


def choice_of(filling, told, base_count, e):
    """The one choice from which a filling that solves can come: read off at the homes, from the first name on."""
    r, rows = told
    choice = []
    for name in range(r):
        home = min(u for u in range(len(rows)) if rows[u][name] != 0)
        rest = [number - other for number, other in zip(filling[home], rows[home][r:] + [0] * e)]
        for power, chosen in zip(rows[home], choice):
            rest = [number - power * other for number, other in zip(rest, chosen)]
        choice.append([number // rows[home][name] for number in rest])
    return choice


def equation_of(left, right, base_count, unknown_count):
    unknowns = [0] * unknown_count
    bases = [0] * base_count
    for sign, term in ((1, left), (-1, right)):
        for at in range(0, len(term), 3):
            sort, number, power = term[at:at + 3]
            (bases if sort == 0 else unknowns)[number] += sign * power
    return unknowns, bases


def echelon(rows):
    """Rows in the form of a staircase by Euclid's steps, numbers above each first one in range."""
    rows = [list(row) for row in rows]
    width = len(rows[0]) if rows else 0
    done = 0
    for place in range(width):
        while True:
            live = [row for row in rows[done:] if row[place] != 0]
            if not live:
                break
            least = min(live, key=lambda row: abs(row[place]))
            if least[place] < 0:
                least[:] = [-number for number in least]
            for row in live:
                if row is not least:
                    subtract(row, row[place] // least[place], least)
            if sum(1 for row in rows[done:] if row[place] != 0) == 1:
                at = next(i for i in range(done, len(rows)) if rows[i] is least)
                rows[done], rows[at] = rows[at], rows[done]
                for row in rows[:done]:
                    subtract(row, row[place] // least[place], least)
                done += 1
                break
    return rows[:done]


def subtract(row, times, other):
    for place, number in enumerate(other):
        row[place] -= times * number


def first_place(row):
    return next(place for place, number in enumerate(row) if number != 0)


def solve(equations, base_count, unknown_count):
    """r and the rows of the told solution, or None if the equations can't hold together."""
    m = len(equations)
    rows = []
    for u in range(unknown_count):
        unit = [1 if v == u else 0 for v in range(unknown_count)]
        rows.append([unknowns[u] for unknowns, bases in equations] + unit)
    stairs = echelon(rows)
    names = [stair[m:] for stair in stairs if not any(stair[:m])]
    base_rows = []
    for b in range(base_count):
        row = [bases[b] for unknowns, bases in equations] + [0] * unknown_count
        for stair in stairs:
            place = first_place(stair)
            subtract(row, row[place] // stair[place], stair)
        if any(row[:m]):
            return None
        base_rows.append(row[m:])
    return len(names), [[row[u] for row in names + base_rows] for u in range(unknown_count)]


def rank(rows):
    rows = [[Fraction(number) for number in row] for row in rows]
    width = len(rows[0]) if rows else 0
    done = 0
    for place in range(width):
        at = next((i for i in range(done, len(rows)) if rows[i][place] != 0), None)
        if at is None:
            continue
        rows[done], rows[at] = rows[at], rows[done]
        for i in range(done + 1, len(rows)):
            subtract(rows[i], rows[i][place] / rows[done][place], rows[done])
        done += 1
    return done


def solves_with_fractions(equations):
    return rank([unknowns for unknowns, bases in equations]) == rank([unknowns + bases for unknowns, bases in equations])


def equate(kept, equation, base_count, unknown_count):
    """What equate answers; solving from scratch with and without the equation tells all of it."""
    before = solve(kept, base_count, unknown_count)
    after = solve(kept + [equation], base_count, unknown_count)
    if after is None:
        return -7 if solves_with_fractions(kept + [equation]) else -4
    return 0 if after == before else 1


def same(kept, equation, base_count, unknown_count):
    return {-7: 0, -4: 0, 0: 1, 1: 2}[equate(kept, equation, base_count, unknown_count)]


def normal(kept, terms, base_count, unknown_count):
    """The normal form by one more unknown for each term, put ahead of the others in the told solution.

    The rows of the first unknowns of a told solution, less the names that have no power in them,
    are the normal form of these unknowns.
    """
    count = len(terms)
    equations = [([0] * count + unknowns, bases) for unknowns, bases in kept]
    for at, (unknowns, bases) in enumerate(terms):
        own = [-1 if place == at else 0 for place in range(count)]
        equations.append((own + unknowns, bases))
    r, rows = solve(equations, base_count, count + unknown_count)
    seen = [name for name in range(r) if any(row[name] for row in rows[:count])]
    return len(seen), [[row[name] for name in seen] + row[r:] for row in rows[:count]]


def blame(kept, equation, base_count, unknown_count):
    """Equation after equation left out, from the last to the first, as the document's words tell it."""
    left = list(range(len(kept)))
    if solve(kept + [equation], base_count, unknown_count) is not None:
        return [-6]
    for place in reversed(range(len(kept))):
        others = [other for other in left if other != place]
        if solve([equation] + [kept[other] for other in others], base_count, unknown_count) is None:
            left = others
    return [len(left)] + left


def root(kept, term, d, base_count, unknown_count):
    """By one more unknown whose power d is the term: it's there under every filling if nothing else is tied by it."""
    r, rows = solve(kept, base_count, unknown_count)
    unknowns, bases = term
    equations = [(old + [0], old_bases) for old, old_bases in kept] + [(unknowns + [-d], bases)]
    after = solve(equations, base_count, unknown_count + 1)
    if after is None or after[0] != r or after[1][:unknown_count] != rows:
        return [0]
    return [1] + after[1][-1]
