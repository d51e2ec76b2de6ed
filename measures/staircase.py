"""Rows of whole numbers, and the staircase form that tells what they span.

A staircase is a list of rows. Each row's home, the place of its first number
that isn't 0, lies behind the home of the row before it; the number there is
above 0; and the rows before it have a number from 0 to one below it there.
Rows that span the same have the same staircase.
"""


def combined(first, row, second, other):
    """first times row plus second times other, place by place."""
    return [first * x + second * y for x, y in zip(row, other, strict=True)]


def dot(row, other):
    """The sum of the products, place by place."""
    return sum([x * y for x, y in zip(row, other, strict=True)])


def transposed(rows, width):
    """The columns of rows that have width numbers each."""
    return [[row[place] for row in rows] for place in range(width)]


def flat(rows):
    """The numbers of all rows, one row behind another."""
    numbers = []
    for row in rows:
        numbers.extend(row)
    return numbers


def home(row):
    """The place of the first number that isn't 0; the row's length if there's none."""
    for place, number in enumerate(row):
        if number != 0:
            return place
    return len(row)


def common_divisor(numbers):
    """The greatest common divisor, 0 if all numbers are 0."""
    divisor = 0
    for number in numbers:
        rest = abs(number)
        while rest != 0:
            remainder = divisor % rest
            divisor = rest
            rest = remainder
    return divisor


def bezout(first, second):
    """[g, x, y]: g, above 0, is the greatest common divisor and x * first + y * second."""
    upper = [first, 1, 0]
    lower = [second, 0, 1]
    while lower[0] != 0:
        rest = combined(1, upper, -(upper[0] // lower[0]), lower)
        upper = lower
        lower = rest
    return upper if upper[0] > 0 else [-number for number in upper]


def joined(stair, row, place):
    """Two rows that span what stair and row span; the second has 0 at place."""
    sums = bezout(stair[place], row[place])
    stair_part = stair[place] // sums[0]
    row_part = row[place] // sums[0]
    upper = combined(sums[1], stair, sums[2], row)
    lower = combined(stair_part, row, -row_part, stair)
    return (upper, lower)


def add_row(stairs, row):
    """Put one more row into stairs, a dict from homes to rows."""
    rest = row
    place = home(rest)
    while place in stairs:
        pair = joined(stairs[place], rest, place)
        stairs[place] = pair[0]
        rest = pair[1]
        place = home(rest)
    if place < len(rest):
        stairs[place] = rest if rest[place] > 0 else [-number for number in rest]


def divided(row, stairs):
    """How often each of the stairs is taken from the row so that it's in range at each one's home; what's left."""
    multiples = []
    rest = row
    for stair in stairs:
        place = home(stair)
        times = rest[place] // stair[place]
        # Most rows are in range already: passing them over saves most of the work.
        if times != 0:
            rest = combined(1, rest, -times, stair)
        multiples.append(times)
    return (multiples, rest)


def reduced(row, stairs):
    """The row less multiples of the stairs, so that it is in range at each one's home."""
    return divided(row, stairs)[1]


def settle(stairs):
    """Bring the rows of stairs, a dict from homes to rows, into range at the homes behind them."""
    settled = []
    places = sorted(stairs, reverse=True)
    for place in places:
        row = reduced(stairs[place], settled)
        stairs[place] = row
        settled.insert(0, row)


def staircase(rows):
    """The staircase of what the rows span."""
    stairs = {}
    for row in rows:
        add_row(stairs, row)
        # Settled after each row, not once at the end: else the numbers grow far beyond what the answer needs.
        settle(stairs)
    return [stairs[place] for place in sorted(stairs)]
