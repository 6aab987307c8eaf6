"""Rows of pairs whose firsts rise: where a number stands among these."""


def pairs_below(pairs, number):
    """How many of the pairs have a first below a number."""
    low, high = 0, len(pairs)
    while low < high:
        middle = (low + high) // 2
        if pairs[middle][0] < number:
            low = middle + 1
        else:
            high = middle
    return low
