"""A search of its own, to compare the package with: it tries out all that can be spent, number by number."""

import functools
import random

from tests.model import Model, random_program

ENDLESS = "endless"


class Search:
    """What can come in a small program. All of it is found by trying each sum that can be spent, up to a cap."""

    def __init__(self, program, most=None):
        self.program = program
        self.first = Model(program).moment()
        self.steps, self.dues, self.back, self.answers = {}, {}, {}, {}
        line = [self.first]
        while line:
            moment = line.pop()
            if moment not in self.steps:
                self.learn(moment)
                line.extend(self.steps[moment].values())
                line.append(self.back[moment])
                if most is not None and len(self.steps) > most:
                    break
        # No way without a round costs more than all costs together.
        self.cap = sum(self.dues.values()) + 1

    def learn(self, moment):
        model = self.put(moment)
        self.dues[moment] = model.due()
        if not model.choices():
            self.answers[moment] = tuple(model.now[name] for name in model.told)
        self.steps[moment] = {}
        for step in model.choices():
            after = self.put(moment)
            after.step(step)
            self.steps[moment][step] = after.moment()
        model.fall()
        self.back[moment] = model.moment()

    def put(self, moment):
        model = Model(self.program)
        (model.back, copied), model.place, values = moment
        model.copied = dict(zip(model.copied, copied))
        model.now = dict(zip(model.now, values))
        return model

    def sums(self, waking, cap):
        """For each moment without a fall behind the waking, all that can be spent there, the cap for more."""
        found = {(waking, 0)}
        line = [(waking, 0)]
        while line:
            moment, spent = line.pop()
            for after in self.steps[moment].values():
                state = (after, min(cap, spent + self.dues[moment]))
                if state not in found:
                    found.add(state)
                    line.append(state)
        sums = {}
        for moment, spent in found:
            sums.setdefault(moment, set()).add(spent)
        return sums

    def most(self, waking):
        """The most that can be spent at each moment behind the waking."""
        return {moment: ENDLESS if max(sums) >= self.cap else max(sums) for moment, sums in self.sums(waking, self.cap).items()}

    def widths(self, waking):
        """The greatest width of the falls behind the waking to each next one."""
        widths = {}
        for moment, spent in self.most(waking).items():
            if self.dues[moment]:
                width = ENDLESS if spent == ENDLESS else spent + self.dues[moment] - 1
                widths.setdefault(self.back[moment], []).append(width)
        return {after: ENDLESS if ENDLESS in some else max(some) for after, some in widths.items()}

    def after_falls(self, waking, charge):
        """The wakings to which a fall can come with the charge, behind steps from the waking."""
        sums = self.sums(waking, charge)
        return {self.back[moment] for moment in sums if self.dues[moment] and max(sums[moment]) + self.dues[moment] > charge}

    def falls(self, charge):
        """The wakings that can come with the charge, each with those to which a fall can come next."""
        falls = {}
        line = [self.first]
        while line:
            waking = line.pop()
            if waking not in falls:
                falls[waking] = self.after_falls(waking, charge)
                line.extend(falls[waking])
        return falls

    def has_ring(self, charge):
        return any(waking in behind(falls, waking) for falls in [self.falls(charge)] for waking in falls)

    def moments(self, charge):
        """All moments that can come with the charge."""
        return {moment for waking in self.falls(charge) for moment in self.sums(waking, 0)}

    def most_falls(self, charge):
        """The most falls that can still come behind each waking that can come; there is no ring."""
        falls = self.falls(charge)
        numbers = dict.fromkeys(falls, 0)
        for _ in falls:
            numbers = {waking: max([numbers[after] + 1 for after in falls[waking]], default=0) for waking in falls}
        return numbers

    def has_own_loop(self, charge):
        steps = {moment: set(afters.values()) for moment, afters in self.steps.items()}
        return any(moment in behind(steps, moment) for moment in self.moments(charge))

    def answers_at(self, charge):
        return tuple(sorted({self.answers[moment] for moment in self.moments(charge) if moment in self.answers}))

    def right(self):
        return tuple(sorted({self.answers[moment] for moment in self.sums(self.first, 0) if moment in self.answers}))

    def does(self, charge):
        """Whether no ring can come with the charge, and only right answers can."""
        return not self.has_ring(charge) and self.answers_at(charge) == self.right()

    def width(self, can):
        """The greatest charge with which something can come, None if it cannot come with any."""
        if not can(0):
            return None
        if can(self.cap):
            return ENDLESS
        low, high = 0, self.cap
        while high - low > 1:
            middle = (low + high) // 2
            low, high = (middle, high) if can(middle) else (low, middle)
        return low

    def profile(self):
        """The ring width and the rows of all answers, by trying charges."""
        answers_at = functools.cache(self.answers_at)
        right = self.right()
        rows = tuple((answer, answer in right, self.width(lambda charge, it=answer: it in answers_at(charge))) for answer in answers_at(0))
        return self.width(functools.cache(self.has_ring)), rows


def with_only(program, places):
    """The program with just these of its marks on."""
    cells, code, told = program
    lines = [("mark" if at in places else "off", line[1]) if line[0] in ("mark", "off") else line for at, line in enumerate(code)]
    return cells, tuple(lines), told


def all_sets(things):
    """All ascending tuples of these things, each bit of a number telling of one of them."""
    return sorted(tuple(thing for at, thing in enumerate(things) if number >> at & 1) for number in range(1 << len(things)))


def behind(legs, start):
    """All nodes to which one leg or more lead from the start."""
    found = set()
    line = [start]
    while line:
        for after in legs[line.pop()]:
            if after not in found:
                found.add(after)
                line.append(after)
    return found


def busy_program(pick):
    """A program that counts, so that its falls often lead to new wakings, and that mostly comes to an end."""
    cells = [("a", pick.choice(("kept", "kept", "saved")), pick.randrange(1, 4), 0), ("b", pick.choice(("quick", "kept")), 2, 0)]
    code = []
    size = pick.randrange(2, 8)
    for at in range(size):
        word = pick.choice(("set", "set", "set", "set", "unless", "unless", "mark", "off", "ask", "jump"))
        name = pick.choice("ab")
        cost = pick.randrange(1, 10)
        test = (pick.choice(("less", "equal")), name, pick.randrange(3))
        parts = {
            "set": (name, ("plus", name, pick.choice((1, 1, "a", "b")))), "unless": (test, pick.choice((size, size, pick.randrange(size)))),
            "ask": (name,), "jump": (pick.choice((min(at + 2, size), size, pick.randrange(size))),),
        }
        code.append((word, *parts.get(word, ()), cost))
    told = tuple(cell[0] for cell in cells if cell[1] != "quick")
    return (tuple(cells), tuple(code) + (("end",),), told)


def small_searches(seed, many, most=60):
    """Searches of random programs with few moments."""
    pick = random.Random(seed)
    while many:
        search = Search(pick.choice((random_program, busy_program, busy_program))(pick), most)
        if len(search.steps) <= most:
            many -= 1
            yield search
