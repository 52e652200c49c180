"""Names of lines, ends and diagrams."""

from driveends.errors import InvalidEnds, InvalidName

MAX_LETTERS = 8
LETTERS = "abcdefghijklmnopqrstuvwxyz"


def is_name(value):
    """Whether the value is a string of one to eight letters a to z."""
    if not isinstance(value, str) or len(value) > MAX_LETTERS:
        return False
    return value.isascii() and value.isalpha() and value.islower()


def are_distinct_names(value):
    """Whether the value is a tuple of names, each once."""
    if not isinstance(value, tuple) or not all([is_name(name) for name in value]):
        return False
    return len(set(value)) == len(value)


def check_name(value):
    """Raise InvalidName if this is not a name."""
    if not is_name(value):
        raise InvalidName("a name has one to eight letters a to z")


def check_lines(lines):
    """Raise InvalidName if one of these is not a name."""
    for line in lines:
        check_name(line)


def check_distinct_names(ends):
    """Raise InvalidEnds if these are not a tuple of distinct names."""
    if not are_distinct_names(ends):
        raise InvalidEnds("ends are a tuple of distinct names")


def check_renaming(value):
    """Raise InvalidName if this is not a dict from names to names."""
    if not isinstance(value, dict):
        raise InvalidName("new names are given by a dict from names to names")
    for name, new_name in value.items():
        check_name(name)
        check_name(new_name)


def renamed_lines(lines, names):
    """The lines, each one that is a key replaced by its value."""
    check_renaming(names)
    return tuple([names.get(line, line) for line in lines])


def name_at(index):
    """The name at this position of the list a, b, .. z, aa, ab and so on."""
    name = ""
    many = index + 1
    while many > 0:
        many, letter = divmod(many - 1, len(LETTERS))
        name = LETTERS[letter] + name
    return name


def new_names(many, taken):
    """The first so many names that are not among the taken ones."""
    known = {name: True for name in taken}
    found = []
    index = 0
    while len(found) < many:
        name = name_at(index)
        if name not in known:
            found.append(name)
        index += 1
    return found
