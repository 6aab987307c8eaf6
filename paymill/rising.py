"""Rows that rise: whether they do, and where a number stands among pairs."""


def is_rising(row):
    """Whether each of a row is greater than the one ahead of it."""
    return all([row[at] < row[at + 1] for at in range(len(row) - 1)])


def pairs_below(pairs, number):
    """How many of the pairs have a first below a number."""
    low, high = 0, len(pairs)
    while low < high:
        middle = (low + high) // 2
        if pairs[middle][0] < number:
            low = middle + 1
        else:
            high = middle
    return low
