"""The parts of diagrams: six kinds of statements about lines.

What all kinds have in common stands in each class again: each class of the interface has its methods
in its own body.
"""

from driveends.diagrams.names import check_lines, check_name, renamed_lines
from driveends.errors import InvalidName, InvalidNumber, InvalidPart, ParseError
from driveends.numbers.numbers import MAX_MODULUS, is_int

MAX_PART_LINES = 60
MAX_USED_ENDS = 8


def check_factor(number):
    """Raise InvalidNumber if this is not an integer from 0 to 96."""
    if not is_int(number) or number < 0 or number >= MAX_MODULUS:
        raise InvalidNumber(number)


def check_many(lines, fewest, most):
    """Raise InvalidPart if these are too few or too many lines."""
    if len(lines) < fewest or len(lines) > most:
        raise InvalidPart(f"there should be {fewest} to {most} lines, not {len(lines)}")


def check_tuple(value):
    """Raise InvalidPart if this is not a tuple."""
    if not isinstance(value, tuple):
        raise InvalidPart("lines and pairs are passed as a tuple")


class Part:
    """A statement which numbers on its lines fit together; only its six kinds have objects."""

    def __init__(self):
        raise InvalidPart("a part has a kind")

    @classmethod
    def read(cls, text):
        """The part with this text."""
        if not isinstance(text, str):
            raise ParseError("a text is a string")
        try:
            part = part_of_words(text.split(" "))
        except (InvalidNumber, InvalidName, InvalidPart):
            raise ParseError("a part has a wrong number, name or line") from None
        # Words that are understood can still be written otherwise: 07, or the pairs of a Mix.
        if str(part) != text:
            raise ParseError("the text of a part is written in another way")
        return part

    def _settle(self, kind, words, lines):
        """Set what all kinds have; only called while a part is made."""
        self._kind = kind
        self._lines = tuple(lines)
        self._text = " ".join([kind, *words])

    def with_lines(self, lines):
        """The part of the same kind with these lines in the places of its own."""
        raise InvalidPart("only the kinds have lines")

    def numbers(self):
        """The number or the factors, as in the text."""
        return ()

    def claims(self):
        """The sums that are 0: pairs of the terms now and the terms one step before, as (line, factor)."""
        return []

    @property
    def kind(self):
        return self._kind

    @property
    def lines(self):
        return self._lines

    def __str__(self):
        return str(self._text)

    def __eq__(self, other):
        return isinstance(other, Part) and self._text == other._text

    def renamed(self, **names):
        return self.with_lines(renamed_lines(self._lines, names))

    def renamed_by(self, names):
        return self.with_lines(renamed_lines(self._lines, names))


class Sum(Part):
    """The last line is the sum of the others."""

    def __init__(self, *lines):
        check_lines(lines)
        check_many(lines, 1, MAX_PART_LINES)
        self._settle("Sum", lines, lines)

    @classmethod
    def of(cls, lines):
        """The part with the lines of a tuple."""
        check_tuple(lines)
        return Sum(*lines)

    @property
    def kind(self):
        return self._kind

    @property
    def lines(self):
        return self._lines

    def __str__(self):
        return str(self._text)

    def __eq__(self, other):
        return isinstance(other, Part) and self._text == other._text

    def renamed(self, **names):
        return self.with_lines(renamed_lines(self._lines, names))

    def renamed_by(self, names):
        return self.with_lines(renamed_lines(self._lines, names))

    def with_lines(self, lines):
        return Sum(*lines)

    def claims(self):
        *others, last = self._lines
        terms = [(line, -1) for line in others]
        return [([(last, 1), *terms], [])]


class Times(Part):
    """The second line is a number times the first one."""

    def __init__(self, number, before, after):
        check_factor(number)
        check_lines((before, after))
        self._number = number
        self._settle("Times", (str(number), before, after), (before, after))

    @property
    def kind(self):
        return self._kind

    @property
    def lines(self):
        return self._lines

    def __str__(self):
        return str(self._text)

    def __eq__(self, other):
        return isinstance(other, Part) and self._text == other._text

    def renamed(self, **names):
        return self.with_lines(renamed_lines(self._lines, names))

    def renamed_by(self, names):
        return self.with_lines(renamed_lines(self._lines, names))

    def with_lines(self, lines):
        before, after = lines
        return Times(self._number, before, after)

    def numbers(self):
        return (self._number,)

    def claims(self):
        before, after = self._lines
        return [([(after, 1), (before, -self._number)], [])]


class Mix(Part):
    """The target is the sum of some lines, each times its factor."""

    def __init__(self, target_line, **factors):
        self._keep(target_line, tuple(factors.items()))

    @classmethod
    def of(cls, target_line, pairs):
        """The part with the pairs (line, factor) of a tuple."""
        check_tuple(pairs)
        if not all([isinstance(pair, tuple) and len(pair) == 2 for pair in pairs]):
            raise InvalidPart("a pair is a tuple of a line and a factor")
        mix = Mix(target_line)
        mix._keep(target_line, pairs)
        return mix

    def _keep(self, target_line, pairs):
        """Check and set everything; only called while the part is made."""
        check_name(target_line)
        check_lines([line for line, _ in pairs])
        for _, factor in sorted(pairs, key=lambda pair: pair[0]):
            check_factor(factor)
        check_many(pairs, 0, MAX_PART_LINES)
        self._pairs = tuple(sorted(pairs))
        words = [f"{line}={factor}" for line, factor in self._pairs]
        lines = [line for line, _ in self._pairs]
        self._settle("Mix", [target_line, *words], [target_line, *lines])

    @property
    def kind(self):
        return self._kind

    @property
    def lines(self):
        return self._lines

    def __str__(self):
        return str(self._text)

    def __eq__(self, other):
        return isinstance(other, Part) and self._text == other._text

    def renamed(self, **names):
        return self.with_lines(renamed_lines(self._lines, names))

    def renamed_by(self, names):
        return self.with_lines(renamed_lines(self._lines, names))

    def with_lines(self, lines):
        target, *others = lines
        return Mix.of(target, tuple(zip(others, self.numbers())))

    def numbers(self):
        return tuple([factor for _, factor in self._pairs])

    def claims(self):
        terms = [(line, -factor) for line, factor in self._pairs]
        return [([(self._lines[0], 1), *terms], [])]


class Delay(Part):
    """The second line is what the first one was one step earlier."""

    def __init__(self, before, after):
        check_lines((before, after))
        self._settle("Delay", (before, after), (before, after))

    @property
    def kind(self):
        return self._kind

    @property
    def lines(self):
        return self._lines

    def __str__(self):
        return str(self._text)

    def __eq__(self, other):
        return isinstance(other, Part) and self._text == other._text

    def renamed(self, **names):
        return self.with_lines(renamed_lines(self._lines, names))

    def renamed_by(self, names):
        return self.with_lines(renamed_lines(self._lines, names))

    def with_lines(self, lines):
        before, after = lines
        return Delay(before, after)

    def claims(self):
        before, after = self._lines
        return [([(after, 1)], [(before, -1)])]


class Same(Part):
    """All lines are equal."""

    def __init__(self, *lines):
        check_lines(lines)
        check_many(lines, 1, MAX_PART_LINES)
        self._settle("Same", lines, lines)

    @classmethod
    def of(cls, lines):
        """The part with the lines of a tuple."""
        check_tuple(lines)
        return Same(*lines)

    @property
    def kind(self):
        return self._kind

    @property
    def lines(self):
        return self._lines

    def __str__(self):
        return str(self._text)

    def __eq__(self, other):
        return isinstance(other, Part) and self._text == other._text

    def renamed(self, **names):
        return self.with_lines(renamed_lines(self._lines, names))

    def renamed_by(self, names):
        return self.with_lines(renamed_lines(self._lines, names))

    def with_lines(self, lines):
        return Same(*lines)

    def claims(self):
        first, *others = self._lines
        return [([(line, 1), (first, -1)], []) for line in others]


class Use(Part):
    """The diagram of this name in a workshop, with these lines as its ends."""

    def __init__(self, used_name, *lines):
        check_name(used_name)
        check_lines(lines)
        check_many(lines, 0, MAX_USED_ENDS)
        self._used_name = used_name
        self._settle("Use", (used_name, *lines), lines)

    @property
    def used_name(self):
        """The name of the diagram that is used."""
        return self._used_name

    @classmethod
    def of(cls, used_name, lines):
        """The part with the lines of a tuple."""
        check_tuple(lines)
        return Use(used_name, *lines)

    @property
    def kind(self):
        return self._kind

    @property
    def lines(self):
        return self._lines

    def __str__(self):
        return str(self._text)

    def __eq__(self, other):
        return isinstance(other, Part) and self._text == other._text

    def renamed(self, **names):
        return self.with_lines(renamed_lines(self._lines, names))

    def renamed_by(self, names):
        return self.with_lines(renamed_lines(self._lines, names))

    def with_lines(self, lines):
        return Use(self._used_name, *lines)


def number_of(text):
    """The number from 0 to 99 that is written like this."""
    if len(text) > 2 or not text.isascii() or not text.isdigit():
        raise ParseError("a number has one or two digits")
    return int(text)


def pair_of(text):
    """The pair (line, factor) that is written like this."""
    line, _, factor = text.partition("=")
    return (line, number_of(factor))


def part_of_words(words):
    """The part of which these are the words, where they are a kind and as many words as it needs."""
    kind, *others = words
    if kind == "Sum":
        return Sum(*others)
    if kind == "Same":
        return Same(*others)
    if kind == "Delay" and len(others) == 2:
        return Delay(others[0], others[1])
    if kind == "Times" and len(others) == 3:
        return Times(number_of(others[0]), others[1], others[2])
    if kind == "Mix" and others:
        return Mix.of(others[0], tuple([pair_of(word) for word in others[1:]]))
    if kind == "Use" and others:
        used_name, *lines = others
        return Use(used_name, *lines)
    raise ParseError("a part begins with its kind, and has as many words as this needs")
