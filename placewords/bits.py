"""Numbers that stand for sets by their bits."""


def bits_of(number):
    """Return the ascending list of the bits that are set in a number."""
    found = []
    while number != 0:
        lowest = number & -number
        found.append(lowest.bit_length() - 1)
        number = number ^ lowest
    return found
