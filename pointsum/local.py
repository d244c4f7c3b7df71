"""Quartics at primes: witnesses that they are there, and bars, which show that they are not."""

from pointsum.localclasses import is_barred, scaled_form, square_place, value_at_place
from pointsum.polynomials import roots_over
from pointsum.quartics import at_reals
from pointsum.symbols import is_local_square
from pointsum.whole import is_tuple, is_whole


def sides_of(quartic, p):
    """The two sides of a quartic: their words, forms, and the q of the class (0, q) where they begin."""
    d1, a, d2 = quartic
    return (("t", (d1, a, d2), 1), ("s", (d2, a, d1), p))


def looked_at(form, p, r, q):
    """(place, classes): a place in a class whose value is a local square, or None and what is left of the class."""
    if p == 2:
        if is_local_square(value_at_place(form, r), 2):
            return (r, [])
        return (None, [] if is_barred(form, r, q) else [(r, 2 * q), (r + q, 2 * q)])
    e, h = scaled_form(form, p, r, q)
    u = square_place(h, p) if e % 2 == 0 else None
    if u is not None:
        return (r + q * u, [])
    return (None, [(r + q * u, q * p) for u in roots_over(h, p)])


def witness_at(quartic, p):
    """A witness that a quartic is at a prime p; None if there is none."""
    todo = [(word, form, 0, q) for word, form, q in sides_of(quartic, p)]
    # Class by class from the greatest ones on: one row of ever smaller classes may go on for ever.
    while todo:
        further = []
        for word, form, r, q in todo:
            place, classes = looked_at(form, p, r, q)
            if place is not None:
                return (word, place)
            further.extend([(word, form, next_r, next_q) for next_r, next_q in classes])
        todo = further
    return None


def at_prime(quartic, p):
    """Whether a quartic is at a prime p."""
    return witness_at(quartic, p) is not None


def everywhere(quartic, primes):
    """Whether a quartic is at the reals and at each prime of a tuple."""
    return at_reals(quartic) and all([at_prime(quartic, p) for p in primes])


def tree_of(form, p, r, q):
    """The tree for a class in which no value is a local square."""
    classes = looked_at(form, p, r, q)[1]
    trees = [tree_of(form, p, next_r, next_q) for next_r, next_q in classes]
    if p == 2:
        return ("halves", *trees) if trees else ("barred",)
    word = "even" if scaled_form(form, p, r, q)[0] % 2 == 0 else "odd"
    digits = [(next_r - r) // q for next_r, _ in classes]
    return (word, tuple(zip(digits, trees)))


def bars_at(quartic, p):
    """Bars that show that a quartic is not at a prime p; None if there are none."""
    if at_prime(quartic, p):
        return None
    return tuple([tree_of(form, p, 0, q) for _, form, q in sides_of(quartic, p)])


def is_witness(quartic, p, value):
    """Whether a value, any one, is a witness that a quartic is at a prime p."""
    if not is_tuple(value, 2) or not is_whole(value[1]):
        return False
    told, r = value
    for word, form, q in sides_of(quartic, p):
        if told == word and r % q == 0:
            return is_local_square(value_at_place(form, r), p)
    return False


def behind_two(form, r, q, tree):
    """The list of (r, q, TREE) on which a tree for a class hangs, p being 2; None if it is not right."""
    if is_barred(form, r, q):
        return [] if tree == ("barred",) else None
    if not is_tuple(tree, 3) or tree[0] != "halves":
        return None
    return [(r, 2 * q, tree[1]), (r + q, 2 * q, tree[2])]


def behind_odd(form, p, r, q, tree):
    """The list of (r, q, TREE) on which a tree for a class hangs, p being odd; None if it is not right."""
    if not is_tuple(tree, 2) or not isinstance(tree[1], tuple):
        return None
    e, h = scaled_form(form, p, r, q)
    digits = roots_over(h, p)
    if tree[0] != ("even" if e % 2 == 0 else "odd") or len(tree[1]) != len(digits):
        return None
    further = []
    for u, row in zip(digits, tree[1]):
        if not is_tuple(row, 2) or not is_whole(row[0]) or row[0] != u:
            return None
        further.append((r + q * u, q * p, row[1]))
    if e % 2 == 0 and square_place(h, p) is not None:
        return None
    return further


def is_bars(quartic, p, value):
    """Whether a value, any one, is bars that show that a quartic is not at a prime p."""
    if not is_tuple(value, 2):
        return False
    todo = [(form, 0, q, tree) for (_, form, q), tree in zip(sides_of(quartic, p), value)]
    while todo:
        form, r, q, tree = todo.pop()
        further = behind_two(form, r, q, tree) if p == 2 else behind_odd(form, p, r, q, tree)
        if further is None:
            return False
        todo.extend([(form, next_r, next_q, part) for next_r, next_q, part in further])
    return True
