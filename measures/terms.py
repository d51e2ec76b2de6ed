"""Terms: lists of whole numbers, three for each factor: its sort, its number, its power."""

BASE = 0
UNKNOWN = 1
MOST_FACTORS = 24
MOST_POWER = 99


def is_good_factor(factor, base_count, unknown_count):
    """Whether three numbers tell a base or an unknown that's there, to a power in range."""
    if factor[0] == BASE:
        count = base_count
    elif factor[0] == UNKNOWN:
        count = unknown_count
    else:
        return False
    return 0 <= factor[1] < count and abs(factor[2]) <= MOST_POWER


def factors_of(term):
    """The factors of a term, three numbers each."""
    return [term[start:start + 3] for start in range(0, len(term), 3)]


def is_good(term, base_count, unknown_count):
    """Whether the term is good in a system with so many bases and unknowns."""
    if len(term) % 3 != 0 or len(term) > 3 * MOST_FACTORS:
        return False
    return all([is_good_factor(factor, base_count, unknown_count) for factor in factors_of(term)])


def summed_powers(term, sort, count):
    """For each of count bases or unknowns (as sort says) the sum of its powers in a good term."""
    powers = [0] * count
    for factor in factors_of(term):
        if factor[0] == sort:
            powers[factor[1]] += factor[2]
    return powers


def split_terms(numbers):
    """The terms that stand one behind another, each behind its number of factors; None if they can't be read."""
    terms = []
    place = 0
    while place < len(numbers):
        factor_count = numbers[place]
        end = place + 1 + 3 * factor_count
        if factor_count < 0 or end > len(numbers):
            return None
        terms.append(numbers[place + 1:end])
        place = end
    return terms
