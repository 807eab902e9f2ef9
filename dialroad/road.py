"""The road: dials at all places, named walkers that run programs on it, and a history of what they did."""

from dialroad.errors import DuplicateName, InvalidName, InvalidPlace, InvalidProgram
from dialroad.errors import NoSuchMoment, NothingLeft, UnknownName
from dialroad.integers import is_whole
from dialroad.programs import copied, is_count, is_program, shift_of, with_lists
from dialroad.sums import is_zero, terms_of, value_of

LETTERS = "abcdefghijklmnopqrstuvwxyz"
LONGEST_NAME = 8


def is_name(value):
    """Whether any value may be the name of a walker."""
    if not isinstance(value, str) or not 1 <= len(value) <= LONGEST_NAME:
        return False
    return all([letter in LETTERS for letter in value])


def copied_action(action):
    """A copy of an action that shares no list with it."""
    word, name, what = action
    return (word, name, copied(what)) if word == "run" else action


def plain_action(action):
    """A copy of an action with lists for all programs in it, so that equal actions are equal values."""
    word, name, what = action
    return (word, name, with_lists(what)) if word == "run" else action


class Road:
    """A road on which all dials show 0 at first, without walkers."""

    def __init__(self, prime):
        self.prime = prime
        self.done = []
        self.taken_back = []

    def __eq__(self, other):
        """Whether another value is a road with the same prime and the same actions."""
        if not isinstance(other, Road) or self.prime != other.prime:
            return False
        return [plain_action(action) for action in self.done] == [plain_action(action) for action in other.done]

    def perform(self, action):
        """Performs a new action, after which nothing can be redone."""
        self.done.append(action)
        self.taken_back.clear()

    def has_walker(self, name):
        """Whether any value is the name of a walker on the road."""
        return name in [action[1] for action in self.done if action[0] == "enter"]

    def enter(self, name, place):
        """A walker enters at a place."""
        if not is_name(name):
            raise InvalidName(name)
        if self.has_walker(name):
            raise DuplicateName(name)
        # A place has the same bounds as a count.
        if not is_count(place):
            raise InvalidPlace(place)
        self.perform(("enter", name, place))

    def run(self, name, program):
        """A walker runs a program."""
        if not self.has_walker(name):
            raise UnknownName(name)
        if not is_program(program):
            raise InvalidProgram(program)
        self.perform(("run", name, copied(program)))

    def undo(self):
        """Takes back the last action and returns it."""
        if not self.done:
            raise NothingLeft("undo")
        action = self.done.pop()
        self.taken_back.append(action)
        return copied_action(action)

    def redo(self):
        """Performs the last action that was taken back and returns it."""
        if not self.taken_back:
            raise NothingLeft("redo")
        action = self.taken_back.pop()
        self.done.append(action)
        return copied_action(action)

    def actions(self):
        """The list of all actions."""
        return [copied_action(action) for action in self.done]

    def number_of(self, moment):
        """How many actions have been performed at a moment, any value."""
        if moment is None:
            return len(self.done)
        if not is_whole(moment) or not 0 <= moment <= len(self.done):
            raise NoSuchMoment(moment)
        return moment

    def replayed(self, first, last):
        """Where the walkers stand after the last action, and the terms of all runs from the first action on."""
        standing = {}
        terms = []
        for at, (word, name, what) in enumerate(self.done[:last]):
            if word == "enter":
                standing[name] = what
                continue
            if at >= first:
                terms.extend(terms_of(what, standing[name]))
            standing[name] += shift_of(what)
        return standing, terms

    def dial(self, place, moment=None):
        """The value of a dial after the first actions, or now."""
        terms = self.replayed(0, self.number_of(moment))[1]
        return value_of(self.prime, terms, place)

    def places(self, moment=None):
        """A dict from the names of the walkers, ascending, to their places after the first actions, or now."""
        number = self.number_of(moment)
        standing = self.replayed(number, number)[0]
        return {name: standing[name] for name in sorted(standing)}

    def same_dials(self, one, other):
        """Whether all dials show the same after two moments."""
        numbers = [self.number_of(one), self.number_of(other)]
        terms = self.replayed(min(numbers), max(numbers))[1]
        return is_zero(self.prime, terms)
