"""Expressions and tests worked out, without any check, over a table of the values of the cells."""


def table_of(cells, values):
    """The value of each cell by its name."""
    return {cell[0]: value for cell, value in zip(cells, values)}


def worked_out(expression, table):
    """The value of an expression."""
    if isinstance(expression, str):
        return table[expression]
    if not isinstance(expression, tuple):
        return expression
    left = worked_out(expression[1], table)
    right = worked_out(expression[2], table)
    if expression[0] == "plus":
        return left + right
    if expression[0] == "minus":
        return left - right
    return left * right


def tested(test, table):
    """Whether a test holds."""
    if test[0] == "not":
        return not tested(test[1], table)
    left = worked_out(test[1], table)
    right = worked_out(test[2], table)
    if test[0] == "less":
        return left < right
    return left == right
