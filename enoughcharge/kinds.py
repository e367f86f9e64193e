"""What values are by their form alone: numbers, names, cells, expressions, instructions, programs, steps."""

LETTERS = "abcdefghijklmnopqrstuvwxyz"
KINDS = ("quick", "saved", "kept")
SUMS = ("plus", "minus", "times")
COMPARISONS = ("less", "equal")

# The forms of the values behind each word. A form "cell" is the name of what an instruction sets or asks.
FORMS = {
    "set": ("cell", "expression", "cost"),
    "ask": ("cell", "cost"),
    "jump": ("place", "cost"),
    "unless": ("test", "place", "cost"),
    "mark": ("cost",),
    "off": ("cost",),
    "end": (),
}


def is_integer(thing):
    """Whether any value is an int that is not a bool."""
    return isinstance(thing, int) and not isinstance(thing, bool)


def is_number(thing):
    """Whether any value is an integer that is at least 0."""
    return is_integer(thing) and thing >= 0


def is_name(thing):
    """Whether any value is a string of one to eight lowercase letters."""
    if not isinstance(thing, str) or not 1 <= len(thing) <= 8:
        return False
    return all([letter in LETTERS for letter in thing])


def is_cell(thing):
    """Whether any value is a cell."""
    return has_cell_form(thing) and thing[3] <= thing[2]


def has_cell_form(thing):
    """Whether any value is a cell, but for a start that may be above its top."""
    if not isinstance(thing, tuple) or len(thing) != 4:
        return False
    return is_name(thing[0]) and thing[1] in KINDS and is_number(thing[2]) and is_number(thing[3])


def is_expression(thing):
    """Whether any value is an expression, with any names."""
    if isinstance(thing, tuple):
        return has_two_expressions(thing, SUMS)
    return is_number(thing) or is_name(thing)


def is_test(thing):
    """Whether any value is a test, with any names."""
    if not isinstance(thing, tuple):
        return False
    if len(thing) == 2:
        return thing[0] == "not" and is_test(thing[1])
    return has_two_expressions(thing, COMPARISONS)


def has_two_expressions(thing, words):
    """Whether a tuple is one of these words and two expressions."""
    return len(thing) == 3 and thing[0] in words and is_expression(thing[1]) and is_expression(thing[2])


def is_cost(thing):
    """Whether any value is a number from 1 on."""
    return is_number(thing) and thing > 0


def is_instruction(thing):
    """Whether any value is an instruction, with cells of any names and any number as its place."""
    return has_word(thing) and all([has_form(form, value) for form, value in parts_of(thing)])


def has_word(thing):
    """Whether any value is a tuple of one of the words and as many values as belong to it."""
    if not isinstance(thing, tuple) or len(thing) == 0:
        return False
    word = thing[0]
    return isinstance(word, str) and word in FORMS and len(thing) == len(FORMS[word]) + 1


def parts_of(instruction):
    """The pairs (form, value) of what has a word."""
    return list(zip(FORMS[instruction[0]], instruction[1:]))


def has_form(form, value):
    """Whether any value is what this form of FORMS asks."""
    if form == "expression":
        return is_expression(value)
    if form == "test":
        return is_test(value)
    if form == "cost":
        return is_cost(value)
    if form == "cell":
        return is_name(value)
    return is_number(value)


def is_program(thing):
    """Whether any value is a program."""
    return program_fault(thing) is None


def is_step(thing):
    """Whether any value is () or a tuple of one number."""
    return is_tuple_of_numbers(thing) and len(thing) <= 1


def is_stretch(thing):
    """Whether any value is a tuple of steps."""
    return isinstance(thing, tuple) and all([is_step(step) for step in thing])


def is_tuple_of_tuples(thing):
    """Whether any value is a tuple that contains only tuples."""
    return isinstance(thing, tuple) and all([isinstance(part, tuple) for part in thing])


def is_tuple_of_numbers(thing):
    """Whether any value is a tuple that contains only numbers."""
    return isinstance(thing, tuple) and all([is_number(part) for part in thing])


def is_ascending(things):
    """Whether each one of these comparable values is less than the next one."""
    return all([low < high for low, high in zip(things, things[1:])])


def is_name_set(thing, names):
    """Whether any value is a set of some of these names."""
    return isinstance(thing, tuple) and all([name in names for name in thing]) and is_ascending(thing)


def names_in(tree):
    """The list of all names in an expression or a test."""
    if isinstance(tree, str):
        return [tree]
    if isinstance(tree, tuple):
        return [name for part in tree[1:] for name in names_in(part)]
    return []


def program_fault(thing):
    """The pair of the word and the place of the first fault of any value as a program, None without any."""
    if not is_tuple_of_tuples(thing) or len(thing) != 3 or len(thing[1]) == 0:
        return ("shape", -1)
    cells, code, told = thing
    return cells_fault(cells) or code_fault(cells, code) or told_fault(cells, told)


def cells_fault(cells):
    """The first fault of a tuple of any values as the cells of a program, None without any."""
    for at, cell in enumerate(cells):
        if not has_cell_form(cell) or (at > 0 and cell[0] <= cells[at - 1][0]):
            return ("cell", at)
        if not is_cell(cell):
            return ("start", at)
    return None


def code_fault(cells, code):
    """The first fault of a tuple of any values as the code of a program with these cells, None without any."""
    names = [cell[0] for cell in cells]
    for at, instruction in enumerate(code):
        word = instruction_fault(names, len(code), instruction)
        if word is not None:
            return (word, at)
    if code[-1][0] not in ("end", "jump"):
        return ("last", -1)
    return None


def instruction_fault(names, size, instruction):
    """The word of the first fault of any value as an instruction of a program with so many places, or None."""
    if not has_word(instruction):
        return "word"
    parts = parts_of(instruction)
    if not all([has_form(form, value) for form, value in parts if form in ("expression", "test", "cost")]):
        return "value"
    if not all([value in names for form, value in parts if form == "cell"]):
        return "cell"
    trees = [value for form, value in parts if form in ("expression", "test")]
    if not all([name in names for tree in trees for name in names_in(tree)]):
        return "cell"
    if not all([is_number(value) and value < size for form, value in parts if form == "place"]):
        return "place"
    return None


def told_fault(cells, told):
    """The fault of a tuple of any values as the told names, None without any."""
    if is_name_set(told, [cell[0] for cell in cells if cell[1] != "quick"]):
        return None
    return ("told", -1)
