"""A machine that does programs in its own way, and random programs, to compare the package with."""

import operator
import random

SIGNS = {
    "plus": operator.add, "minus": operator.sub, "times": operator.mul, "less": operator.lt, "equal": operator.eq,
    "not": operator.not_,
}


class Model:
    """Cells by name in dicts that change; what it knows is told as the document writes it."""

    def __init__(self, program):
        self.cells, self.code, self.told = program
        self.now = {name: start for name, _, _, start in self.cells}
        self.place = 0
        self.spent = 0
        self.mark()

    def mark(self):
        self.back = self.place
        self.copied = {name: self.now[name] for name, kind, _, _ in self.cells if kind == "saved"}

    def moment(self):
        return ((self.back, tuple(self.copied.values())), self.place, tuple(self.now.values()))

    def work(self, tree):
        if isinstance(tree, tuple):
            return SIGNS[tree[0]](*[self.work(part) for part in tree[1:]])
        return self.now.get(tree, tree)

    def due(self):
        line = self.code[self.place]
        return 0 if line[0] in ("end", "off") else line[-1]

    def choices(self):
        line = self.code[self.place]
        tops = {name: top for name, _, top, _ in self.cells}
        if line[0] == "ask":
            return [(value,) for value in range(tops[line[1]] + 1)]
        return [] if line[0] == "end" else [()]

    def step(self, step):
        line = self.code[self.place]
        tops = {name: top for name, _, top, _ in self.cells}
        self.spent += self.due()
        self.place += 1
        if line[0] == "set":
            self.now[line[1]] = self.work(line[2]) % (tops[line[1]] + 1)
        elif line[0] == "ask":
            (self.now[line[1]],) = step
        elif line[0] == "jump":
            self.place = line[1]
        elif line[0] == "unless":
            self.place = self.place if self.work(line[1]) else line[2]
        elif line[0] == "mark":
            self.mark()

    def fall(self):
        self.place = self.back
        self.spent = 0
        self.now.update(self.copied)
        self.now.update({name: start for name, kind, _, start in self.cells if kind == "quick"})


def random_expression(pick, names, deep):
    if deep == 0 or pick.random() < 0.4:
        return pick.choice(names + [0, 1, 2, 3])
    parts = [random_expression(pick, names, deep - 1) for _ in range(2)]
    return (pick.choice(("plus", "minus", "times")), *parts)


def random_test(pick, names, deep):
    if pick.random() < 0.3:
        return ("not", random_test(pick, names, deep))
    return (pick.choice(("less", "equal")), random_expression(pick, names, deep), random_expression(pick, names, deep))


def random_program(pick):
    """A program of up to four cells and nine instructions."""
    names = sorted(pick.sample(["a", "b", "mark", "set", "z"], pick.randrange(5)))
    tops = {name: pick.randrange(4) for name in names}
    cells = tuple((name, pick.choice(("quick", "saved", "kept")), top, pick.randrange(top + 1)) for name, top in tops.items())
    size = pick.randrange(1, 10)
    words = ["jump", "unless", "mark", "off", "end"] + ["set", "set", "set", "ask"] * bool(names)
    code = [random_line(pick, pick.choice(words), names, size) for _ in range(size - 1)]
    code.append(random_line(pick, pick.choice(("end", "jump")), names, size))
    told = tuple(name for name, kind, _, _ in cells if kind != "quick" and pick.random() < 0.7)
    return (cells, tuple(code), told)


def random_line(pick, word, names, size):
    parts = {
        "set": lambda: (pick.choice(names), random_expression(pick, names, 3)),
        "ask": lambda: (pick.choice(names),),
        "jump": lambda: (pick.randrange(size),),
        "unless": lambda: (random_test(pick, names, 2), pick.randrange(size)),
    }
    if word == "end":
        return ("end",)
    return (word, *parts.get(word, tuple)(), pick.randrange(1, 10))


def random_runs(seed, many):
    """Triples of a random program, a random run of it, and the model after this run, with what it has met."""
    pick = random.Random(seed)
    for _ in range(many):
        program = random_program(pick)
        yield (program, *random_run(pick, program))


def random_run(pick, program):
    model = Model(program)
    met = {"wakings": [model.moment()], "widths": [], "moments": [model.moment()]}
    stretches = [[]]
    for _ in range(pick.randrange(40)):
        if model.due() and pick.random() < 0.25:
            met["widths"].append(model.spent + model.due() - 1)
            model.fall()
            stretches.append([])
            met["wakings"].append(model.moment())
        elif model.choices():
            step = pick.choice(model.choices())
            model.step(step)
            stretches[-1].append(step)
        met["moments"].append(model.moment())
    return tuple(tuple(stretch) for stretch in stretches), model, met
