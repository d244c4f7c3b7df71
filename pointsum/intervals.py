"""Intervals: pairs (low, high) of fractions."""

from pointsum.fractions import less, over, plus, times
from pointsum.polynomials import ascending


def spanned(results):
    """The interval from the least to the greatest one of some fractions."""
    row = ascending(results)
    return (row[0], row[-1])


def interval_plus(A, B):
    """The sum of two intervals."""
    return spanned([plus(f, g) for f in A for g in B])


def interval_less(A, B):
    """A less B."""
    return spanned([less(f, g) for f in A for g in B])


def interval_times(A, B):
    """The product of two intervals."""
    return spanned([times(f, g) for f in A for g in B])


def halved(A):
    """An interval over 2."""
    return (over(A[0], (2, 1)), over(A[1], (2, 1)))
