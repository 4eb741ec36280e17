"""Whole numbers, lands as numbers, and several lands as the bits of one number."""


# True and False are ints for Python, but no whole numbers for the program.
def is_whole(thing):
    return isinstance(thing, int) and not isinstance(thing, bool)


def is_between(least, most, thing):
    return is_whole(thing) and least <= thing <= most


def is_land(n, thing):
    return is_between(0, n - 1, thing)


def are_lands(n, thing):
    return is_whole(thing) and thing >= 0 and thing.bit_length() <= n


def lands_of(bits):
    return [land for land in range(bits.bit_length()) if bits >> land & 1 == 1]
