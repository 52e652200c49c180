"""Diagrams, and the equations that their parts stand for."""

from driveends.diagrams.names import check_distinct_names, renamed_lines
from driveends.diagrams.parts import Part
from driveends.errors import InvalidDiagram, InvalidEnds, InvalidModulus, InvalidNumber
from driveends.errors import InvalidPart, ParseError, TooLarge
from driveends.numbers.numbers import check_modulus, is_int


def check_parts(modulus, parts):
    """Raise InvalidPart if something is no part, then InvalidNumber for a number that is too large."""
    if not all([isinstance(part, Part) for part in parts]):
        raise InvalidPart("a diagram is made of parts")
    for part in parts:
        for number in part.numbers():
            if number >= modulus:
                raise InvalidNumber(number)


class Diagram:
    """A modulus, parts and ends."""

    MAX_PARTS = 40
    MAX_ENDS = 8
    MAX_LINES = 60
    MAX_DELAYS = 12

    def __init__(self, modulus, *parts, ends=()):
        check_modulus(modulus)
        check_parts(modulus, parts)
        check_distinct_names(ends)
        names = [line for part in parts for line in part.lines]
        self._modulus = modulus
        self._parts = parts
        self._ends = ends
        self._lines = tuple(sorted(set([*names, *ends])))
        self._check_limits()
        self._text = text_of(modulus, parts, ends)

    @classmethod
    def of(cls, modulus, parts, ends):
        """The diagram with the parts of a tuple."""
        check_modulus(modulus)
        if not isinstance(parts, tuple):
            raise InvalidPart("parts are passed as a tuple")
        return Diagram(modulus, *parts, ends=ends)

    @classmethod
    def read(cls, text):
        """The diagram with this text."""
        if not isinstance(text, str):
            raise ParseError("a text is a string")
        try:
            diagram = diagram_of_text(text)
        except (InvalidModulus, InvalidPart, InvalidNumber, InvalidEnds, TooLarge):
            raise ParseError("a diagram has a wrong modulus, number or end, or is too large") from None
        # What was understood can still be written with other blanks, or with 05 for 5.
        if str(diagram) != text:
            raise ParseError("the text of a diagram is written in another way")
        return diagram

    def _check_limits(self):
        """Raise TooLarge with the first limit that is exceeded; only called while the diagram is made."""
        sizes = (
            (len(self._parts), Diagram.MAX_PARTS),
            (len(self._ends), Diagram.MAX_ENDS),
            (len(self._lines), Diagram.MAX_LINES),
            (self.delays, Diagram.MAX_DELAYS),
        )
        for size, limit in sizes:
            if size > limit:
                raise TooLarge(limit)

    @property
    def modulus(self):
        """The modulus."""
        return self._modulus

    @property
    def parts(self):
        """The parts, in order."""
        return self._parts

    @property
    def ends(self):
        """The ends, in order."""
        return self._ends

    @property
    def lines(self):
        """All lines of the parts, and the ends, ascending."""
        return self._lines

    @property
    def delays(self):
        """The number of delays."""
        return len([part for part in self._parts if part.kind == "Delay"])

    @property
    def is_plain(self):
        """Whether the diagram uses no other diagrams."""
        return all([part.kind != "Use" for part in self._parts])

    def __len__(self):
        return len(self._parts)

    def __str__(self):
        return str(self._text)

    def __eq__(self, other):
        return isinstance(other, Diagram) and self._text == other._text

    def renamed(self, **names):
        """The diagram with new names for lines and ends."""
        return self.renamed_by(names)

    def renamed_by(self, names):
        """The diagram with new names for lines and ends, from a dict."""
        ends = renamed_lines(self._ends, names)
        parts = tuple([part.renamed_by(names) for part in self._parts])
        return Diagram(self._modulus, *parts, ends=ends)

    def with_part(self, part):
        """The diagram with one more part behind the others."""
        return Diagram.of(self._modulus, (*self._parts, part), self._ends)

    def without_part(self, index):
        """The diagram without the part at this position."""
        if not is_int(index) or index < 0 or index >= len(self._parts):
            raise InvalidNumber(index)
        parts = self._parts[:index] + self._parts[index + 1:]
        return Diagram.of(self._modulus, parts, self._ends)

    def parts_at(self, line):
        """Yield the parts that have the line."""
        for part in self._parts:
            if line in part.lines:
                yield part


def text_of(modulus, parts, ends):
    """The text of a diagram."""
    words = [f"{modulus}:", ", ".join([str(part) for part in parts]), "->", *ends]
    return " ".join([word for word in words if word != ""])


def modulus_of(text):
    """The number that is written like this, if it can be a modulus."""
    if len(text) > 2 or not text.isascii() or not text.isdigit():
        raise ParseError("a modulus has one or two digits")
    return int(text)


def diagram_of_text(text):
    """The diagram of which this is the text, where its signs are in their places."""
    head, _, body = text.partition(":")
    before, _, behind = body.partition("->")
    texts = before.strip().split(", ")
    parts = tuple([Part.read(one) for one in texts if one != ""])
    return Diagram.of(modulus_of(head), parts, tuple(behind.split()))


def terms_of(modulus, terms):
    """The dict from lines to factors for terms (line, factor) that are added."""
    sums = {}
    for line, factor in terms:
        sums[line] = (sums.get(line, 0) + factor) % modulus
    return {line: sums[line] for line in sorted(list(sums)) if sums[line] != 0}


def check_plain(diagram):
    """Raise InvalidDiagram if this is not a plain diagram."""
    if not isinstance(diagram, Diagram):
        raise InvalidDiagram("this is not a diagram")
    if not diagram.is_plain:
        raise InvalidDiagram("the diagram uses others")


def equations(diagram):
    """The equations of all parts, in order."""
    check_plain(diagram)
    claims = [claim for part in diagram.parts for claim in part.claims()]
    modulus = diagram.modulus
    return tuple([(terms_of(modulus, now), terms_of(modulus, before)) for now, before in claims])
