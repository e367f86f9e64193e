"""Programs written as texts."""

# Python refuses to write more than 4300 digits at once, so longer numbers are written block by block.
BLOCK_DIGITS = 60
BLOCK = 10 ** 60


def number_text(number):
    """A number, of any size, in decimal."""
    rest = number
    blocks = []
    while rest >= BLOCK:
        blocks.append(str(rest % BLOCK).zfill(BLOCK_DIGITS))
        rest = rest // BLOCK
    blocks.append(str(rest))
    return "".join(blocks[::-1])


def step_text(step, empty):
    """A step as its value, () as the empty word given."""
    return empty if step == () else number_text(step[0])


def expression_text(expression):
    """The one word that writes an expression or a test."""
    if isinstance(expression, str):
        return expression
    if isinstance(expression, tuple):
        inner = ",".join([expression_text(part) for part in expression[1:]])
        return f"{expression[0]}({inner})"
    return number_text(expression)


def instruction_text(instruction):
    """An instruction as its word and its values."""
    return words_text(instruction)


def words_text(things):
    """Words, names, numbers, expressions and tests with single spaces between."""
    return " ".join([expression_text(thing) for thing in things])


def program_text(program):
    """A program as lines: one for each cell, one for told, one for each instruction."""
    cells, code, told = program
    names = ",".join(told) if told else "-"
    lines = [words_text(("cell",) + cell) for cell in cells]
    lines.append(f"told {names}")
    return "\n".join(lines + [instruction_text(instruction) for instruction in code])
