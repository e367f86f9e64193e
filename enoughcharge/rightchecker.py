"""The checker of papers of right and wrong answers."""

from enoughcharge.charges import check_charge
from enoughcharge.errors import InvalidPaper
from enoughcharge.kinds import is_tuple_of_numbers, is_tuple_of_tuples
from enoughcharge.moments import answered, first_moment
from enoughcharge.runs import is_run, moment_after, width_of
from enoughcharge.tables import check_pair, check_tables, is_next_moment, is_table, moments_next


def lets_right(program, charge, thing):
    """Whether only right answers can come with the charge, as a paper shows; InvalidPaper for what is none."""
    check_charge(charge)
    if not isinstance(thing, tuple) or len(thing) != 3:
        raise InvalidPaper("shape", -1)
    word, first, second = thing
    if word == "right" and are_rows(first) and are_pairs(second):
        check_right(program, charge, first, second)
        return True
    if word == "wrong" and isinstance(second, tuple):
        check_wrong(program, charge, first, second)
        return False
    raise InvalidPaper("shape", -1)


def are_pairs(thing):
    """Whether any value is a tuple of pairs."""
    return is_tuple_of_tuples(thing) and all([len(pair) == 2 for pair in thing])


def are_rows(thing):
    """Whether any value is a tuple of pairs of any value and a table."""
    return are_pairs(thing) and all([is_table(pair[1], 1) for pair in thing])


def check_right(program, charge, rows, shown):
    """Raise the first error of these rows and of what is shown in a "right" paper."""
    wakings = [waking for waking, _ in rows]
    check_tables(program, wakings, [[moment for moment, _ in table] for _, table in rows])
    check_shown(program, shown)
    known = {waking: True for waking in wakings}
    answers = {answer: True for answer, _ in shown}
    for at, (_, table) in enumerate(rows):
        bounds = {moment: bound for moment, bound in table}
        for index, moment in enumerate(bounds):
            check_pair(program, charge, bounds, known, moment, (at, index))
            answer = answered(program, moment)
            if answer is not None and answer not in answers:
                raise InvalidPaper("answer", (at, index))


def check_shown(program, shown):
    """Raise the first error of the pairs of an answer, any value, and an unbroken run to it."""
    for at, (answer, stretch) in enumerate(shown):
        end = end_of(program, 0, (stretch,))
        if not is_tuple_of_numbers(answer) or answer != end or (at > 0 and answer <= shown[at - 1][0]):
            raise InvalidPaper("shown", at)


def end_of(program, charge, made):
    """The answer with which a run ends that can come with the charge; None for any value that is no such run."""
    if not is_run(program, made):
        return None
    width = width_of(program, made)
    if width is not None and width < charge:
        return None
    return answered(program, moment_after(program, made))


def check_wrong(program, charge, made, moments):
    """Raise the first error of a run, any value, and of these moments in a "wrong" paper."""
    wrong = end_of(program, charge, made)
    if wrong is None:
        raise InvalidPaper("run", -1)
    for at in range(len(moments)):
        if not is_next_moment(program, moments, at):
            raise InvalidPaper("moment", at)
    if first_moment(program) not in moments:
        raise InvalidPaper("first", -1)
    known = {moment: True for moment in moments}
    for at, moment in enumerate(moments):
        if not all([after in known for after in moments_next(program, moment)]):
            raise InvalidPaper("step", at)
        if answered(program, moment) == wrong:
            raise InvalidPaper("answer", at)
