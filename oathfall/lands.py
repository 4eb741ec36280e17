"""Lands as numbers, and several lands as the bits of one number."""


def is_land(n, thing):
    # True and False are ints for Python, but no whole numbers for the program.
    if not isinstance(thing, int) or isinstance(thing, bool):
        return False
    return 0 <= thing < n


def lands_of(bits):
    return [land for land in range(bits.bit_length()) if bits >> land & 1 == 1]
