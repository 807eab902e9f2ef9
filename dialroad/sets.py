"""Sets of effects: all that is composed of the effects of a list and of their inverses."""

from dialroad.barriers import is_barrier
from dialroad.bases import is_member, rest_of, rounds_of, windows_of
from dialroad.effects import compose, power
from dialroad.errors import DifferentPrimes
from dialroad.recipes import composed, fewest_powers, is_recipe, stride_of, without_shifts
from dialroad.spans import Span


class Effects:
    """The set of effects that a list of effects generates."""

    def __init__(self, prime, generators):
        self.prime = prime
        self.given = list(generators)
        self.pace = stride_of(self.given)
        self.powers = fewest_powers([shift for polynomial, shift in self.given], self.pace)
        # Each member is one with shift 0, followed by a power of this one.
        self.step = composed(prime, self.given, self.powers)
        self.still = Span(prime, self.pace, without_shifts(prime, self.given, self.step))
        self.rows = self.still.basis()
        self.reduced_step = (rest_of(prime, self.pace, self.rows, self.step[0]), self.pace)

    def __eq__(self, other):
        """Whether another value is the same set."""
        if not isinstance(other, Effects) or self.prime != other.prime:
            return False
        return (self.reduced_step, self.rows) == (other.reduced_step, other.rows)

    def generators(self):
        """The generating list."""
        return list(self.given)

    def stride(self):
        """The greatest common divisor of all shifts."""
        return self.pace

    def translation(self):
        """The member with the stride as its shift and with a reduced polynomial."""
        return self.reduced_step

    def basis(self):
        """The basis of the polynomials of the members with shift 0."""
        return list(self.rows)

    def contains(self, effect):
        """Whether an effect belongs to the set."""
        return is_member(self.prime, self.pace, self.reduced_step, self.rows, effect)

    def certificate(self, effect):
        """A recipe for an effect that belongs to the set, a barrier for one that does not."""
        if not self.contains(effect):
            return ("barrier", self.pace, self.reduced_step, list(self.rows))
        count = rounds_of(effect[1], self.pace)
        polynomial = compose(self.prime, effect, power(self.prime, self.step, -count))[0]
        return ("recipe", list(self.powers), count, self.still.factors(polynomial))

    def checks(self, effect, value):
        """Whether any value is a valid recipe or a valid barrier for an effect."""
        if is_recipe(self.prime, self.given, effect, value):
            return True
        return is_barrier(self.prime, self.given, effect, value)

    def cosets(self):
        """How many sets of the form "each member followed by one and the same effect" there are, or None."""
        if self.pace == 0 or len(self.rows) < self.pace:
            return None
        # Two reduced polynomials lead to the same set only if they are equal.
        windows = windows_of(self.pace, self.rows)
        total = self.pace
        for k in range(sum(list(windows.values())) // self.pace):
            total *= self.prime
        return total

    def is_within(self, other):
        """Whether every member belongs to the other set."""
        if self.prime != other.prime:
            raise DifferentPrimes()
        return all([other.contains(effect) for effect in self.given])
