"""Rows of numbers modulo a prime l: the relations that points of a plain curve may have."""

from pointsum.finite import is_good_prime
from pointsum.quotients import logs_over

MOST = 2000
# Primes, one behind the other, that tell nothing new: then a row is hardly ever one that tells no part.
IDLE = 20


def joined_rows(rows, many, l):
    """The list of the rows followed by all rows of so many numbers from 0 to l - 1."""
    for _ in range(many):
        rows = [(*row, n) for row in rows for n in range(l)]
    return rows


def all_tuples(many, l):
    """The list of all tuples of so many numbers from 0 to l - 1 that are not all 0, ascending."""
    return [row for row in joined_rows([()], many, l) if any(row)]


def leading_rows(many, behind, l):
    """The list of one row of each class of multiples: of so many numbers not all 0, and numbers behind them."""
    rows = []
    for at in range(many):
        start = [0] * at
        rows.extend(joined_rows([(*start, 1)], many - 1 - at + behind, l))
    return rows


def kept_rows(rows, logs, l):
    """Those rows for which the sum of the multiples of the logs of points is 0 modulo l."""
    for column in zip(*logs):
        rows = [row for row in rows if sum([n * k for n, k in zip(row, column)]) % l == 0]
    return rows


def rows_left(curve, points, l, rows, most):
    """Those rows that are left at primes to most, as long as primes tell anything new."""
    idle = 0
    for p in range(3, most + 1, 2):
        if rows == [] or idle >= IDLE:
            break
        if is_good_prime(curve, p):
            logs = logs_over(curve, p, l, points, None)
            left = kept_rows(rows, logs, l)
            if len(left) < len(rows):
                idle = 0
            elif logs[0] != ():
                idle += 1
            rows = left
    return rows
