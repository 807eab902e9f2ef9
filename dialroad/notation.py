"""The text of a program: tokens that are separated by single spaces."""

from dialroad.errors import InvalidText
from dialroad.programs import DEEPEST, GREATEST_COUNT, MOST_INSTRUCTIONS, MOST_REPEATS, is_count

DIGITS = "0123456789"
LONGEST_NUMBER = 31


def tokens_of(program):
    """The tokens of a program's text."""
    tokens = []
    for instruction in program:
        tokens.extend([instruction[0], str(instruction[1])])
        if instruction[0] == "repeat":
            tokens.extend(["["] + tokens_of(instruction[2]) + ["]"])
    return tokens


def format_program(program):
    """The text of the program."""
    return " ".join(tokens_of(program))


def count_of(token):
    """The count that a token is the text of, or None if there is none."""
    digits = token.removeprefix("-")
    if not digits or not all([sign in DIGITS for sign in digits]):
        return None
    if digits.startswith("0") and token != "0":
        return None
    # Python refuses to read numbers with thousands of digits.
    if len(digits) > LONGEST_NUMBER:
        return None
    count = int(token)
    return count if is_count(count) else None


class Reader:
    """Reads a program token by token, and raises InvalidText at the first token that cannot stand where it stands."""

    def __init__(self, tokens):
        self.tokens = tokens
        self.at = 0
        self.instructions = 0
        self.repeats = 0

    def has_ended(self):
        """Whether all tokens were read."""
        return self.at == len(self.tokens)

    def token(self):
        """The token that is read next; there must be one."""
        if self.has_ended():
            raise InvalidText(self.at)
        return self.tokens[self.at]

    def read_word(self, depth):
        """Reads the word of an instruction that stands inside as many repeats as the depth says."""
        word = self.token()
        if word not in ("step", "turn", "repeat") or self.instructions == MOST_INSTRUCTIONS:
            raise InvalidText(self.at)
        if word == "repeat":
            if depth == DEEPEST or self.repeats == MOST_REPEATS:
                raise InvalidText(self.at)
            self.repeats += 1
        self.instructions += 1
        self.at += 1
        return word

    def read_count(self, least):
        """Reads a count that is not below the least one."""
        count = count_of(self.token())
        if count is None or count < least:
            raise InvalidText(self.at)
        self.at += 1
        return count

    def read_bracket(self):
        """Reads the bracket before an inner program."""
        if self.token() != "[":
            raise InvalidText(self.at)
        self.at += 1

    def read_instruction(self, depth):
        """Reads an instruction, with its inner program if it has one."""
        word = self.read_word(depth)
        if word != "repeat":
            return (word, self.read_count(-GREATEST_COUNT))
        count = self.read_count(0)
        self.read_bracket()
        inner = []
        while self.token() != "]":
            inner.append(self.read_instruction(depth + 1))
        self.at += 1
        return (word, count, inner)


def parse_program(text):
    """The program whose text is any value, with lists for programs; raises InvalidText if there is none."""
    if not isinstance(text, str):
        raise InvalidText(0)
    # Splitting the empty text would give one empty token.
    reader = Reader(text.split(" ") if text else [])
    program = []
    while not reader.has_ended():
        program.append(reader.read_instruction(0))
    return program
