"""Instructions and programs read from texts."""

from enoughcharge.errors import InvalidText
from enoughcharge.kinds import FORMS, KINDS, is_ascending, is_cost, is_expression, is_name, is_test

CELL_FORMS = ("cell", "kind", "top", "start")
TOLD_FORMS = ("names",)
DIGITS = "0123456789"
MOST_DIGITS = 60
MOST_OPEN = 30


def instruction_read(text, *, line=0, field=0):
    """The instruction that a string writes; InvalidText with this line, and fields from this one on."""
    words = text.split(" ")
    if words[0] not in FORMS:
        raise InvalidText(line, field)
    return (words[0],) + tuple(values_read(FORMS[words[0]], words, line, field))


def program_read(text):
    """The triple of cells, code and told that a string writes."""
    lines = text.split("\n")
    cells = []
    code = []
    told = None
    for line, row in enumerate(lines):
        words = row.split(" ")
        if told is not None:
            code.append(instruction_read(row, line=line))
        elif words[0] == "cell":
            cells.append(tuple(values_read(CELL_FORMS, words, line, 0)))
        elif words[0] == "told":
            told = values_read(TOLD_FORMS, words, line, 0)[0]
        else:
            raise InvalidText(line, 0)
    if len(code) == 0:
        raise InvalidText(len(lines), 0)
    return (tuple(cells), tuple(code), told)


def values_read(forms, words, line, field):
    """The list of the values of these forms, which stand behind the first word of a line."""
    values = []
    for at, form in enumerate(forms, start=1):
        value = word_read(form, words[at], values) if at < len(words) else None
        if value is None:
            raise InvalidText(line, field + at)
        values.append(value)
    if len(words) > len(forms) + 1:
        raise InvalidText(line, field + len(forms) + 1)
    return values


def word_read(form, word, ahead):
    """The value of this form that a word writes behind the values ahead; None if it cannot stand there."""
    if form in ("cell", "name"):
        return word if is_name(word) else None
    if form == "kind":
        return word if word in KINDS else None
    if form == "names":
        return names_read(word)
    if form == "expression":
        tree = tree_read(word, MOST_OPEN)
        return tree if is_expression(tree) else None
    if form == "test":
        tree = tree_read(word, MOST_OPEN)
        return tree if is_test(tree) else None
    if form == "step":
        return step_read(word, "-")
    number = number_read(word)
    if form == "cost" and not is_cost(number):
        return None
    if form == "start" and number is not None and number > ahead[-1]:
        return None
    return number


def number_read(word):
    """The number that a word writes, None if it writes none."""
    if not 1 <= len(word) <= MOST_DIGITS or not all([digit in DIGITS for digit in word]):
        return None
    if word[0] == "0" and len(word) > 1:
        return None
    return int(word)


def step_read(word, empty):
    """The step that a word writes, () being written as the empty word given; None if it writes none."""
    if word == empty:
        return ()
    number = number_read(word)
    return None if number is None else (number,)


def names_read(word):
    """The set of names that a word writes, None if it writes none."""
    if word == "-":
        return ()
    names = tuple(word.split(","))
    if all([is_name(name) for name in names]) and is_ascending(names):
        return names
    return None


def tree_read(word, room):
    """What a word writes with at most this many brackets open at once: a number, a name, or a tuple of a string
    and such parts. It need not be an expression or a test: what cannot be read is None, also as a part.
    """
    if is_name(word):
        return word
    head, bracket, rest = word.partition("(")
    if bracket == "":
        return number_read(word)
    if room == 0 or not rest.endswith(")"):
        return None
    return (head,) + tuple([tree_read(part, room - 1) for part in split_parts(rest[:-1])])


def split_parts(text):
    """The list of the parts between the commas of a text that stand in no bracket of it."""
    parts = []
    begin = 0
    opened = 0
    for at, letter in enumerate(text):
        if letter == "(":
            opened = opened + 1
        elif letter == ")":
            opened = opened - 1
        elif letter == "," and opened == 0:
            parts.append(text[begin:at])
            begin = at + 1
    parts.append(text[begin:])
    return parts
