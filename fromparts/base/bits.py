"""Sets of small numbers, told by the bits of an integer."""


def bits_of(row):
    """The integer that has just these bits, each of which is told once."""
    return sum([1 << one for one in row])


def has_bit(bits, at):
    return (bits >> at) & 1 == 1
