"""The two forms that tell the x of the double of a point, and how far doubling may go astray.

With x = m / N the double has the x F / G, F and G forms of degree 4 in m and N without a common
factor; so N ** 7 and m ** 7 are U F + V G with forms U, V of degree 3. A form is the tuple of its
coefficients, that of the highest power of m first.
"""

from math import gcd, lcm

from pointsum.curves import numbers_of

SIZE = 8


def forms_of(curve):
    """(F, G) of a curve."""
    b2, b4, b6, b8, _, _, _ = numbers_of(curve)
    return ((1, 0, -b4, -2 * b6, -b8), (0, 4, b2, 2 * b4, b6))


def cofactor_rows(f, g):
    """The rows of the equations for (U, V): their sides for U F + V G, and then those for N ** 7 and m ** 7."""
    rows = []
    for k in range(SIZE):
        sides = [form[k - j] if 0 <= k - j < 5 else 0 for form in (f, g) for j in range(4)]
        rows.append(sides + [1 if k == SIZE - 1 else 0, 1 if k == 0 else 0])
    return rows


def made_diagonal(rows):
    """Rows with one solution each behind the first SIZE columns, made diagonal without fractions.

    Each round divides by the pivot ahead of it, which always goes (Bareiss); so all diagonal numbers
    end as the same one.
    """
    ahead = 1
    for k in range(SIZE):
        at = min([i for i in range(k, SIZE) if rows[i][k] != 0])
        rows[k], rows[at] = rows[at], rows[k]
        top = rows[k]
        pivot = top[k]
        for i in range(SIZE):
            if i != k:
                factor = rows[i][k]
                rows[i] = [(pivot * x - factor * y) // ahead for x, y in zip(rows[i], top)]
        ahead = pivot
    return rows


def whole_solution(rows, column):
    """(R, S): the least R from 1 on that makes a solution whole, and the sum of all amounts then."""
    lower = abs(rows[0][0])
    uppers = [abs(row[column]) for row in rows]
    shared = lower
    for n in uppers:
        shared = gcd(shared, n)
    return (lower // shared, sum(uppers) // shared)


def constants_of(curve):
    """(K, K', R) of a curve: what bounds the sizes of doubles, and what common divisors of F and G divide."""
    f, g = forms_of(curve)
    rows = made_diagonal(cofactor_rows(f, g))
    low, low_sum = whole_solution(rows, SIZE)
    high, high_sum = whole_solution(rows, SIZE + 1)
    both = lcm(low, high)
    upper = max(sum([abs(c) for c in f]), sum([abs(c) for c in g]))
    return (max(both // low * low_sum, both // high * high_sum), upper, both)
