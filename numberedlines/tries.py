"""The lists of inputs that are tried, one behind another."""

from numberedlines.errors import TooMany

MOST_LISTS = 2000


def lists_to_try(worths, most_inputs):
    """All lists of so many of the worths or fewer, as tuples: by how many, then in the worths' order."""
    lists = [()]
    longest = [()]
    many = 0
    # Without worths no list is longer than none, however many inputs may be.
    while many < most_inputs and len(longest) > 0:
        if len(lists) + len(longest) * len(worths) > MOST_LISTS:
            raise TooMany()
        longest = [(*inputs, worth) for inputs in longest for worth in worths]
        lists.extend(longest)
        many += 1
    return lists
