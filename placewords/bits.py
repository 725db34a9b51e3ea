"""Numbers that stand for sets by their bits."""


def bits_of(number):
    """Return the ascending list of the bits that are set in a number."""
    return [at for at, digit in enumerate(reversed(f"{number:b}")) if digit == "1"]


def mask_of(bits):
    """Return the number in which just the bits of a list are set."""
    mask = 0
    for bit in bits:
        mask = mask | (1 << bit)
    return mask
