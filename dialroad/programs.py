"""Programs: lists or tuples of step, turn and repeat instructions, and what one run of them does."""

from dialroad.errors import TooLong
from dialroad.integers import is_whole
from dialroad.polynomials import from_sums

DEEPEST = 2
MOST_REPEATS = 5
MOST_INSTRUCTIONS = 100
GREATEST_COUNT = 10 ** 30
LONGEST_RUN = 10000


def is_count(value):
    """Whether any value may be the count of a step or a turn."""
    return is_whole(value) and abs(value) <= GREATEST_COUNT


def is_step_or_turn(value):
    """Whether any value is a step or a turn instruction."""
    if not isinstance(value, tuple) or len(value) != 2:
        return False
    return value[0] in ("step", "turn") and is_count(value[1])


def begins_as_repeat(value):
    """Whether any value is a repeat instruction, if its third part is a program."""
    if not isinstance(value, tuple) or len(value) != 3:
        return False
    return value[0] == "repeat" and is_count(value[1]) and value[1] >= 0


def sizes_of(value, depth):
    """How many instructions and repeats a valid program of at most this depth has; None for any other value."""
    if not isinstance(value, (list, tuple)):
        return None
    instructions = len(value)
    repeats = 0
    for instruction in value:
        # The bounds are checked at each instruction, so that a value far beyond them is given up early.
        if instructions > MOST_INSTRUCTIONS or repeats > MOST_REPEATS:
            return None
        if is_step_or_turn(instruction):
            continue
        if depth == 0 or not begins_as_repeat(instruction):
            return None
        inner = sizes_of(instruction[2], depth - 1)
        if inner is None:
            return None
        instructions += inner[0]
        repeats += 1 + inner[1]
    if instructions > MOST_INSTRUCTIONS or repeats > MOST_REPEATS:
        return None
    return instructions, repeats


def is_program(value):
    """Whether any value is a valid program."""
    return sizes_of(value, DEEPEST) is not None


def copied(program):
    """A copy of a program, with lists where it has lists and tuples where it has tuples."""
    rows = [row if row[0] != "repeat" else (row[0], row[1], copied(row[2])) for row in program]
    return rows if isinstance(program, list) else tuple(rows)


def with_lists(program):
    """A copy of a program with lists for all programs in it."""
    return [row if row[0] != "repeat" else (row[0], row[1], with_lists(row[2])) for row in program]


def shift_of(program):
    """The shift of the program's effect."""
    shift = 0
    for instruction in program:
        if instruction[0] == "step":
            shift += instruction[1]
        elif instruction[0] == "repeat":
            shift += instruction[1] * shift_of(instruction[2])
    return shift


def executed(program):
    """How many step and turn instructions one run executes."""
    total = 0
    for instruction in program:
        if instruction[0] == "repeat":
            total += instruction[1] * executed(instruction[2])
        else:
            total += 1
    return total


def unrolled(program):
    """The step and turn instructions that one run executes, in their order."""
    found = []
    for instruction in program:
        if instruction[0] != "repeat":
            found.append(instruction)
        elif instruction[1] > 0:
            inner = unrolled(instruction[2])
            # Python cannot repeat even an empty list 10 ** 30 times.
            if inner:
                found.extend(inner * instruction[1])
    return found


def effect_of(prime, program):
    """The program's effect; raises TooLong if one run executes more than 10,000 steps and turns."""
    if executed(program) > LONGEST_RUN:
        raise TooLong(LONGEST_RUN)
    sums = {}
    place = 0
    for word, count in unrolled(program):
        if word == "step":
            place += count
        else:
            sums[place] = sums.get(place, 0) + count
    return (from_sums(prime, sums), place)
