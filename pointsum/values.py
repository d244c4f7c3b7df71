"""Values of polynomials with whole coefficients, tuples or lists (c0, c1, ..)."""


def value_whole(f, x):
    """The value of f at a whole number x."""
    total = 0
    for c in reversed(f):
        total = total * x + c
    return total


def value_over(f, x, m):
    """The value of f at x modulo m."""
    total = 0
    for c in reversed(f):
        total = (total * x + c) % m
    return total


def value_scaled(f, n, d):
    """The value of f, of degree k, at n / d, times d ** k; 0 for ()."""
    total = 0
    factor = 1
    for c in reversed(f):
        total = total * n + c * factor
        factor = factor * d
    return total
