"""What several tests begin with, and the terms that aren't good there."""

BIG = 10 ** 18

# The system of the document's first example.
SETUP = "0 2|1|1|1|2;1 0 2 0 0 1;1 1 3"

# Not good in it, with its 2 bases and 3 unknowns.
BAD_TERMS = (
    [0],
    [0, 0],
    [0, 0, 1, 1],
    [0, 0, 1, 1, 0],
    [0, 2, 1],
    [0, -1, 1],
    [1, 3, 1],
    [1, -1, 1],
    [2, 0, 1],
    [-1, 0, 1],
    [0, 0, 100],
    [0, 0, -100],
    [1, 0, 100],
    [1, 0, -100],
    [BIG, 0, 1],
    [-BIG, 0, 1],
    [0, BIG, 1],
    [1, -BIG, 1],
    [1, 0, BIG],
    [1, 0, -BIG],
    [0, 2, 0],
    [1, 3, 0],
    [0, 0, 1, 1, 2, 1, 0, 2, 1],
    [0, 0, 1] * 25,
    [1, 0, 0] * 25,
    [0, 0, 1] * 24 + [0],
    [0] * 8001,
)
