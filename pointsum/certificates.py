"""What each form of a certificate wants, for the numbers that it tells to be prime or not.

A certificate for a prime hangs on certificates for further primes. Each function here tells the
list of these, pairs (q, CERT), or None where something else is not right; so no certificate is too
deep to be looked at.
"""

from math import gcd

from pointsum.modular import power_mod
from pointsum.splitting import betrays, has_no_parts
from pointsum.walks import walk
from pointsum.whole import is_tuple, is_whole

SMALL = 1000000


def is_letter_pair(n, value):
    """Whether a value is a pair of integers from 0 to n - 1."""
    if not is_tuple(value, 2):
        return False
    u, v = value
    return is_whole(u) and is_whole(v) and 0 <= u < n and 0 <= v < n


def is_row(value):
    """Whether a value has the form (q, e, a, CERT)."""
    return is_tuple(value, 4) and all([is_whole(n) for n in value[:3]])


def freed(n, q, e):
    """n, from 1 on, divided by q e times, q from 2 on; None if this does not go."""
    while e > 0:
        if n % q != 0:
            return None
        n //= q
        e -= 1
    return n


def has_order_part(n, q, a):
    """Whether a ** (n - 1) is 1 modulo n and a ** ((n - 1) / q) - 1 has no common factor with n."""
    x = power_mod(a, (n - 1) // q, n)
    return gcd(x - 1, n) == 1 and power_mod(x, q, n) == 1


def behind_powers(n, rows):
    """What ("powers", rows) for n, from 2 on, hangs on; None if it is not right."""
    if not isinstance(rows, tuple) or rows == ():
        return None
    ahead = 1
    rest = n - 1
    further = []
    for row in rows:
        if not is_row(row):
            return None
        q, e, a, cert = row
        if q <= ahead or e < 1 or a < 1 or a >= n:
            return None
        rest = freed(rest, q, e)
        if rest is None:
            return None
        further.append((q, cert))
        ahead = q
    told = (n - 1) // rest
    if told * told <= n:
        return None
    for q, _, a, _ in rows:
        if not has_order_part(n, q, a):
            return None
    return further


def is_walked(n, a, point, c, q):
    """Whether c times the point is a pair and q times that is O, without a break."""
    word, first = walk(n, a, point, c)
    if word != "point" or first == ():
        return False
    return walk(n, a, first, q) == ("point", ())


def is_step(n, value):
    """Whether ("curve", (a, b), (x, y), c, q, CERT) is right for n but for CERT."""
    _, curve, point, c, q, _ = value
    if n < 5 or n % 2 == 0 or n % 3 == 0:
        return False
    if not is_letter_pair(n, curve) or not is_letter_pair(n, point):
        return False
    if not is_whole(c) or not is_whole(q) or c < 1 or q < 2:
        return False
    a, b = curve
    x, y = point
    if gcd(4 * a * a * a + 27 * b * b, n) != 1 or (y * y - x * x * x - a * x - b) % n != 0:
        return False
    # q is the order of a point over n if all is right, and no curve has above 2 n + 1 points.
    if (q - 1) * (q - 1) <= 4 * n or q > 2 * n + 1:
        return False
    return is_walked(n, a, point, c, q)


def behind(n, value):
    """What a value, as a certificate that n is prime, hangs on; None if it is not right."""
    if not isinstance(value, tuple) or value == () or n < 2:
        return None
    word = value[0]
    if word == "small" and len(value) == 1:
        return [] if n < SMALL and has_no_parts(n) else None
    if word == "powers" and len(value) == 2:
        return behind_powers(n, value[1])
    if word == "curve" and len(value) == 6:
        return [(value[4], value[5])] if is_step(n, value) else None
    return None


def is_proof(n, value):
    """Whether a value is a right certificate that n is prime."""
    todo = [(n, value)]
    while todo:
        q, cert = todo.pop()
        further = behind(q, cert)
        if further is None:
            return False
        todo.extend(further)
    return True


def is_refusal(n, value):
    """Whether a value is a right certificate that n is not prime."""
    if not isinstance(value, tuple) or value == ():
        return False
    word = value[0]
    if word == "unit" and len(value) == 1:
        return n == 0 or n == 1
    if len(value) != 2 or not is_whole(value[1]):
        return False
    told = value[1]
    if word == "factor":
        return 1 < told < n and n % told == 0
    if word == "witness":
        return n % 2 == 1 and 2 <= told <= n - 2 and betrays(n, told)
    return False
