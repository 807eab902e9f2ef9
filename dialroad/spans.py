"""All sums of products of given polynomials with polynomials whose exponents are multiples of a stride.

Each given polynomial gets a label of its own behind all classes, so that whatever is done to the polynomials is
written down by their labels. A row is the list of the coefficients of such a polynomial from exponent 0 on.
"""

from dialroad.bases import class_of, part_of, rest_of
from dialroad.integers import reciprocal
from dialroad.polynomials import from_sums, move, normalize, scale


def lead(row, size, low, high):
    """The greatest index of a row with a class from low to less than high and an entry that is not 0, or None."""
    for at in range(len(row) - 1, -1, -1):
        if row[at] != 0 and low <= at % size < high:
            return at
    return None


def cancelled(prime, row, at, other, position):
    """The row less a multiple of another one that is moved from a position to an index, where it leaves 0."""
    factor = row[at] * reciprocal(prime, other[position]) % prime
    moved = [0] * (at - position) + other
    # The shorter list is filled up; a negative number of zeros is none.
    filled = row + [0] * (len(moved) - len(row))
    moved = moved + [0] * (len(row) - len(moved))
    return [(worth - factor * more) % prime for worth, more in zip(filled, moved)]


def settled(prime, rows, size, low, high):
    """The rows, changed until no two leads have the same class, and those that have no lead."""
    held = {}
    without = []
    waiting = list(rows)
    while waiting:
        row = waiting.pop()
        at = lead(row, size, low, high)
        if at is None:
            without.append(row)
            continue
        place = at % size
        if place not in held:
            held[place] = (at, row)
            continue
        position, other = held[place]
        if position > at:
            held[place] = (at, row)
            at, row, position, other = position, other, at, row
        waiting.append(cancelled(prime, row, at, other, position))
    return [held[place][1] for place in sorted(held)], without


def echelon(prime, rows, size, high):
    """Rows with the same span, each of which is alone with its least class among itself and those behind it.

    Rows without any class below high are left out.
    """
    found = []
    for low in range(high):
        # Short rows first: otherwise the rows would double their lengths with each class.
        rows = settled(prime, rows, size, low, high)[0]
        single, rows = settled(prime, rows, size, low, low + 1)
        found.extend(single)
    return found


def row_of(polynomial, size):
    """The row of a polynomial that is moved by a multiple of the size, so that no exponent is negative."""
    start = polynomial[0][0] // size * size
    row = [0] * (polynomial[-1][0] - start + 1)
    for exponent, coefficient in polynomial:
        row[exponent - start] = coefficient
    return row


def basis_polynomial(prime, row, size):
    """The polynomial of a row, with the coefficient 1 and the exponents where a basis polynomial has them."""
    polynomial = from_sums(prime, dict(list(enumerate(row))))
    part = part_of(polynomial, size, class_of(polynomial, size))
    return scale(prime, move(polynomial, -part[0][0]), reciprocal(prime, part[-1][1]))


class Span:
    """All sums of products of given polynomials with polynomials whose exponents are multiples of the stride."""

    def __init__(self, prime, stride, polynomials):
        self.prime = prime
        self.pace = stride
        self.many = len(polynomials)
        exponents = [0] + [exponent for polynomial in polynomials for exponent, coefficient in polynomial]
        # Without a stride everything stands in one stretch, and nothing is ever moved out of it.
        self.origin = 0 if stride > 0 else min(exponents)
        self.room = stride if stride > 0 else max(exponents) - min(exponents) + 1
        # A stride of this size has the classes of the given stride, and then the labels.
        self.size = self.room + self.many
        self.labelled = self.basis_with_labels(polynomials)

    def spread(self, polynomial):
        """The polynomial with room for the labels behind each stride."""
        moved = move(polynomial, -self.origin)
        return tuple([(place // self.room * self.size + place % self.room, worth) for place, worth in moved])

    def basis_with_labels(self, polynomials):
        """The basis, and for each of its polynomials the labels that say how it is made of the given ones."""
        labelled = [self.spread(row) + ((self.room + at, 1),) for at, row in enumerate(polynomials)]
        rows = [row_of(tuple(sorted(row)), self.size) for row in labelled]
        basis = []
        for row in reversed(echelon(self.prime, rows, self.size, self.room)):
            polynomial = basis_polynomial(self.prime, row, self.size)
            basis = [rest_of(self.prime, self.size, basis, polynomial)] + basis
        return basis

    def without_labels(self, polynomial):
        """The polynomial as it was before it was spread."""
        terms = [(place // self.size * self.room + place % self.size, worth)
                 for place, worth in polynomial if place % self.size < self.room]
        return move(tuple(terms), self.origin)

    def basis(self):
        """The basis of the span, a new list."""
        return [self.without_labels(row) for row in self.labelled]

    def factors(self, polynomial):
        """For a polynomial of the span, the factors of the given polynomials whose products sum to it."""
        # What is left are the labels of what was taken away.
        labels = rest_of(self.prime, self.size, self.labelled, self.spread(polynomial))
        return [self.factor_at(labels, self.room + at) for at in range(self.many)]

    def factor_at(self, labels, place):
        """The factor that the labels of this class stand for."""
        terms = [(at // self.size * self.pace, -worth) for at, worth in part_of(labels, self.size, place)]
        return normalize(self.prime, terms)
