"""Powers and inverses modulo a number."""


def power_mod(a, e, m):
    """a to the power e modulo m, e from 0 on, m from 1 on."""
    result = 1 % m
    a = a % m
    while e > 0:
        if e & 1:
            result = result * a % m
        a = a * a % m
        e = e >> 1
    return result


def inverse_mod(a, m):
    """The b from 0 to m - 1 with a b = 1 modulo m; a and m have no common factor."""
    high, low = m, a % m
    above, below = 0, 1
    while low != 0:
        many, rest = divmod(high, low)
        high, low = low, rest
        above, below = below, above - many * below
    return above % m
