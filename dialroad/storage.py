"""The text of a road: a line for its prime, then a line for each action."""

from dialroad.errors import DuplicateName, InvalidLine, InvalidName, InvalidPlace, InvalidText, UnknownName
from dialroad.integers import PRIMES
from dialroad.notation import count_of, format_program, parse_program
from dialroad.road import Road

MOST_RUNS = 200


def line_of(action):
    """The line of an action."""
    word, name, what = action
    if word == "enter":
        return f"enter {name} {what}"
    # There is no space behind the name if the program is empty.
    return " ".join(["run", name] + ([format_program(what)] if what else []))


def save(road):
    """The text of a road."""
    return "\n".join([f"prime {road.prime}"] + [line_of(action) for action in road.actions()])


def new_road(line):
    """A new road with the prime that the first line names."""
    for prime in PRIMES:
        if line == f"prime {prime}":
            return Road(prime)
    raise InvalidLine(0)


def read_line(road, position, line):
    """Performs the action of a line; raises an error, whichever applies, if the line cannot stand there."""
    tokens = line.split(" ")
    if tokens[0] == "enter" and len(tokens) == 3:
        road.enter(tokens[1], count_of(tokens[2]))
    # A space behind the name is followed by a program that is not empty.
    elif tokens[0] == "run" and len(tokens) > 1 and tokens[2:] != [""]:
        road.run(tokens[1], parse_program(" ".join(tokens[2:])))
    else:
        raise InvalidLine(position)


def load(text):
    """The road whose text is any value; raises InvalidLine if there is none."""
    if not isinstance(text, str):
        raise InvalidLine(0)
    lines = text.split("\n")
    road = new_road(lines[0])
    runs = 0
    for position, line in enumerate(lines[1:], start=1):
        runs += 1 if line.startswith("run ") else 0
        if runs > MOST_RUNS:
            raise InvalidLine(position)
        try:
            read_line(road, position, line)
        except (InvalidName, DuplicateName, InvalidPlace, UnknownName, InvalidText):
            raise InvalidLine(position) from None
    return road
