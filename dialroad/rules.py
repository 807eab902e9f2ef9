"""Rules: effects that may be inserted and removed anywhere, and which effects become the same by them."""

from dialroad.bases import rest_of, rounds_of
from dialroad.effects import compose, inverse
from dialroad.integers import is_whole, reciprocal
from dialroad.polynomials import divide, multiply, one_less, scale, subtract, sum_of_products
from dialroad.recipes import are_factors, fewest_powers, is_list_of, stride_of
from dialroad.spans import Span


class Rules:
    """A list of rules.

    A polynomial that the rules make the same as zero wherever it stands is in the ideal of point 30. A rule itself
    leaves modulo this ideal a multiple of one polynomial, which is here called the remnant: what moving by a place
    does not change. So of each rule only its shift and a number modulo the prime count.
    """

    def __init__(self, prime, effects):
        self.prime = prime
        self.given = list(effects)
        self.pace = stride_of(self.given)
        self.powers = fewest_powers([shift for polynomial, shift in self.given], self.pace)
        self.differences = [one_less(prime, shift) for polynomial, shift in self.given]
        self.moved = [multiply(prime, one_less(prime, 1), polynomial) for polynomial, shift in self.given]
        self.ideal = Span(prime, 1, self.differences + self.moved)
        self.rows = self.ideal.basis()
        # The ideal has one generator, which 1 - t divides; it has none if it is zero.
        self.remnant = divide(prime, self.rows[0], one_less(prime, 1)) if self.rows else ()
        self.worths = [self.worth_of(polynomial) for polynomial, shift in self.given]
        self.balanced = self.counts_of_a_remnant()

    def worth_of(self, polynomial):
        """How many remnants a polynomial leaves modulo the ideal, or None if it leaves something else."""
        rest = rest_of(self.prime, 1, self.rows, polynomial)
        if not rest:
            return 0
        if not self.remnant:
            return None
        worth = rest[-1][1] * reciprocal(self.prime, self.remnant[-1][1]) % self.prime
        return worth if scale(self.prime, self.remnant, worth) == rest else None

    def worth_of_counts(self, counts):
        """How many remnants so many of each rule leave."""
        return sum([count * worth for count, worth in zip(counts, self.worths)]) % self.prime

    def counts_of_a_remnant(self):
        """How many of each rule have shift 0 and leave one remnant, or None if there are no such counts."""
        for at, (polynomial, shift) in enumerate(self.given):
            rounds = rounds_of(shift, self.pace)
            # One of this rule, taken back to shift 0; all counts with shift 0 are sums of such.
            counts = [-rounds * count for count in self.powers]
            counts[at] += 1
            worth = self.worth_of_counts(counts)
            if worth != 0:
                unit = reciprocal(self.prime, worth)
                return [unit * count for count in counts]
        return None

    def counts_for(self, effect):
        """How many of each rule make an effect the same as the identity, up to the ideal; None if it is not."""
        polynomial, shift = effect
        worth = self.worth_of(polynomial)
        rounds = rounds_of(shift, self.pace)
        if worth is None or rounds is None:
            return None
        counts = [rounds * count for count in self.powers]
        missing = (worth - self.worth_of_counts(counts)) % self.prime
        if missing == 0:
            return counts
        if self.balanced is None:
            return None
        return [count + missing * more for count, more in zip(counts, self.balanced)]

    def same(self, one, other):
        """Whether two effects are the same under the rules."""
        return self.counts_for(compose(self.prime, one, inverse(self.prime, other))) is not None

    def classes(self):
        """The greatest number of effects that are pairwise not the same, or None if there are infinitely many."""
        if self.pace == 0:
            return None
        number = self.pace
        # A remnant more or less makes no difference if rules with shift 0 leave one.
        width = self.rows[0][-1][0] if self.balanced is None else self.rows[0][-1][0] - 1
        for k in range(width):
            number *= self.prime
        return number

    def left_by(self, effect, counts):
        """The polynomial of an effect less so many of each rule's."""
        left = effect[0]
        for (polynomial, shift), count in zip(self.given, counts):
            left = subtract(self.prime, left, scale(self.prime, polynomial, count))
        return left

    def certificate(self, effect):
        """A rule certificate (counts, factors, factors), or None if the effect is not the same as the identity."""
        counts = self.counts_for(effect)
        if counts is None:
            return None
        factors = self.ideal.factors(self.left_by(effect, counts))
        return (counts, factors[:len(counts)], factors[len(counts):])

    def checks(self, effect, value):
        """Whether any value is a rule certificate for an effect."""
        if not isinstance(value, tuple) or len(value) != 3:
            return False
        counts, firsts, seconds = value
        size = len(self.given)
        if not is_list_of(size, counts) or not all([is_whole(count) for count in counts]):
            return False
        # All exponents are multiples of 1.
        if not are_factors(self.prime, 1, firsts, size) or not are_factors(self.prime, 1, seconds, size):
            return False
        if sum([count * shift for count, (polynomial, shift) in zip(counts, self.given)]) != effect[1]:
            return False
        total = sum_of_products(self.prime, self.differences + self.moved, firsts + seconds)
        return total == self.left_by(effect, counts)
