"""Whether papers keep what the document says of them, read off its sentences."""

from enoughcharge.moments import answer_of, first_moment, is_moment, is_over
from enoughcharge.runs import is_run, moment_after, width_of
from tests.search import Search


def steps_of(search, moment):
    """The moments after the possible steps; also for a moment that the search has not met."""
    if moment not in search.steps:
        search.learn(moment)
    return search.steps[moment].values()


def keeps_bounds(search, charge, table, moment):
    """Whether each step of a moment leads to one of the table with a bound that is great enough."""
    bounds = {entry[0]: entry[1] for entry in table}
    for after in steps_of(search, moment):
        if after not in bounds or bounds[after] < min(charge, bounds[moment] + search.dues[moment]):
            return False
    return True


def waking_behind(search, charge, moment, bound):
    """The waking to which a fall that can come leads, or None."""
    steps_of(search, moment)
    due = search.dues[moment]
    return search.back[moment] if due and due + bound > charge else None


def faults_of_tables(program, wakings, tables):
    """All faults of wakings and of the moments of their tables, in order."""
    def is_next(things, at):
        return is_moment(program, things[at]) and (at == 0 or not is_moment(program, things[at - 1]) or things[at - 1] < things[at])
    for k, table in enumerate(tables):
        if not is_next(wakings, k):
            yield ("row", k)
        for j in range(len(table)):
            if not is_next(table, j):
                yield ("table", (k, j))
        if repr(wakings[k]) not in map(repr, table):
            yield ("start", k)
    if repr(first_moment(program)) not in map(repr, wakings):
        yield ("first", -1)


def on_faults(program, charge, rows):
    """All faults of the rows of a "numbers" paper of the right shape, in order."""
    yield from faults_of_tables(program, [row[0] for row in rows], [[pair[0] for pair in row[2]] for row in rows])
    search = Search(program, 0)
    numbers = {waking: number for waking, number, _ in rows}
    for k, (_, number, table) in enumerate(rows):
        for j, (moment, bound) in enumerate(table):
            if not keeps_bounds(search, charge, table, moment):
                yield ("step", (k, j))
            after = waking_behind(search, charge, moment, bound)
            if after is not None and not (after in numbers and numbers[after] < number):
                yield ("fall", (k, j))


def order_faults(program, charge, rows):
    """All faults of the rows of an order paper of the right shape, in order."""
    yield from faults_of_tables(program, [row[0] for row in rows], [[triple[0] for triple in row[1]] for row in rows])
    search = Search(program, 0)
    for k, (_, table) in enumerate(rows):
        numbers = {moment: number for moment, _, number in table}
        for j, (moment, bound, number) in enumerate(table):
            if not keeps_bounds(search, charge, table, moment):
                yield ("step", (k, j))
            after = waking_behind(search, charge, moment, bound)
            if after is not None and after not in [row[0] for row in rows]:
                yield ("fall", (k, j))
            if not all(numbers[after] < number for after in steps_of(search, moment)):
                yield ("order", (k, j))


def right_faults(program, charge, thing):
    """All faults of a paper of right or wrong answers, of the right shape, in order."""
    search = Search(program, 0)
    if thing[0] == "wrong":
        yield from wrong_faults(search, charge, *thing[1:])
        return
    _, rows, shown = thing
    yield from faults_of_tables(program, [row[0] for row in rows], [[pair[0] for pair in row[1]] for row in rows])
    for i, (answer, stretch) in enumerate(shown):
        ends = is_run(program, (stretch,)) and answer_of(program, moment_after(program, (stretch,)))
        if not isinstance(ends, tuple) or repr(ends) != repr(answer) or (i and not shown[i - 1][0] < answer):
            yield ("shown", i)
    for k, (_, table) in enumerate(rows):
        for j, (moment, bound) in enumerate(table):
            if not keeps_bounds(search, charge, table, moment):
                yield ("step", (k, j))
            after = waking_behind(search, charge, moment, bound)
            if after is not None and after not in [row[0] for row in rows]:
                yield ("fall", (k, j))
            if answer_of(program, moment) is not None and answer_of(program, moment) not in [pair[0] for pair in shown]:
                yield ("answer", (k, j))


def wrong_faults(search, charge, made, moments):
    """All faults of a paper of a wrong answer, in order."""
    program = search.program
    if not is_run(program, made) or {None: charge}.get(width_of(program, made), width_of(program, made)) < charge or not is_over(program, moment_after(program, made)):
        yield ("run", -1)
        return
    for j, moment in enumerate(moments):
        if not is_moment(program, moment) or (j and not moments[j - 1] < moment):
            yield ("moment", j)
    if first_moment(program) not in moments:
        yield ("first", -1)
    for j, moment in enumerate(moments):
        if not all(after in moments for after in steps_of(search, moment)):
            yield ("step", j)
        if answer_of(program, moment) == answer_of(program, moment_after(program, made)):
            yield ("answer", j)


def spoilt(pick, things, moments):
    """Nested tuples with one place changed: something left out, twice, swapped, another number, or another moment."""
    at = pick.randrange(len(things)) if things else 0
    if not things:
        return things
    thing = things[at]
    if isinstance(thing, tuple) and pick.random() < 0.8 and thing not in moments:
        return things[:at] + (spoilt(pick, thing, moments),) + things[at + 1:]
    if thing in moments:
        other = pick.choice(moments + [None, 3, (), thing[:2], (thing[0], thing[1], thing[2] + (0,)), (thing[0], True, thing[2])])
        return things[:at] + (other,) + things[at + 1:]
    if isinstance(thing, int) and not isinstance(thing, bool):
        return things[:at] + (max(0, thing + pick.choice((-9, -2, -1, -1, 1, 1, 2, 9))),) + things[at + 1:]
    other = pick.randrange(len(things))
    if pick.random() < 0.4:
        return things[:at] + things[at + 1:]
    if pick.random() < 0.5:
        return things[:at] + (thing,) + things[at:]
    if not isinstance(things[other], tuple):
        return things
    swapped = list(things)
    swapped[at], swapped[other] = swapped[other], swapped[at]
    return tuple(swapped)
