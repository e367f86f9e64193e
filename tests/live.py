"""A live machine of its own, which keeps what happened as lists that change, to compare the package with."""

import copy

from tests.model import Model
from tests.search import Search


class Live:
    """What the document says of a machine, over a Model."""

    def __init__(self, program, charge):
        self.model = Model(program)
        self.charge = charge
        self.first = ("machine", program, charge)
        self.events = []
        self.stretches = [[]]
        self.notes = {}
        self.past = []

    def program(self):
        return (self.model.cells, self.model.code, self.model.told)

    def moment(self):
        return self.model.moment()

    def is_over(self):
        return self.model.code[self.model.place][0] == "end"

    def width(self):
        return self.model.spent + self.model.due() - 1 if self.model.due() else None

    def reason(self, event):
        """Why an event by form is not possible, first of all because there are forty."""
        word, *rest = event
        code = self.model.code
        if len(self.events) > 39:
            return "full"
        if word in ("step", "fall"):
            if self.is_over():
                return "over"
            if word == "step":
                return None if rest[0] in self.model.choices() else "step"
            return "charge" if self.width() is None or self.width() < self.charge else None
        if word == "note":
            return "twice" if rest[0] in self.notes else None
        if self.stretches[-1]:
            return "fresh"
        if word == "charge":
            return "same" if rest[0] == self.charge else None
        wanted = {"off": "mark", "on": "off"}[word]
        return None if rest[0] < len(code) and code[rest[0]][0] == wanted else "place"

    def apply(self, event):
        """The answer of an event that is possible."""
        kept = [(name, copy.deepcopy(thing)) for name, thing in vars(self).items() if name != "past"]
        self.past.append(kept)
        self.events.append(event)
        word, *rest = event
        answer = None
        if word == "step":
            answer = self.model.due()
            self.model.step(rest[0])
            self.stretches[-1].append(rest[0])
        elif word == "fall":
            answer = self.width()
            self.model.fall()
            self.stretches.append([])
        elif word == "charge":
            self.charge = rest[0]
        elif word == "note":
            self.notes[rest[0]] = (self.moment(), len(self.stretches) - 1)
        else:
            code = list(self.model.code)
            code[rest[0]] = ({"off": "off", "on": "mark"}[word], code[rest[0]][1])
            self.model.code = tuple(code)
        return answer

    def undo(self):
        event = self.events[-1]
        for name, thing in self.past.pop():
            setattr(self, name, thing)
        return event

    def log(self):
        return (self.first, *self.events)

    def ahead(self):
        return Ahead(self.program(), self.charge, self.moment(), self.model.spent)


class Ahead:
    """All that can still come behind a moment, for each sum that can be spent, up to the charge."""

    def __init__(self, program, charge, moment, spent):
        search = Search(program, 0)
        start = (moment, min(spent, charge))
        self.legs = {}
        line = [start]
        answers = set()
        while line:
            state = line.pop()
            if state not in self.legs:
                now, sum_here = state
                if now not in search.steps:
                    search.learn(now)
                due = search.dues[now]
                self.legs[state] = [(0, (after, min(sum_here + due, charge))) for after in search.steps[now].values()]
                if due and sum_here + due > charge:
                    self.legs[state].append((1, (search.back[now], 0)))
                if now in search.answers:
                    answers.add(search.answers[now])
                line.extend(leg[1] for leg in self.legs[state])
        self.falls = self.most_falls(start)
        self.answers = tuple(sorted(answers))
        self.wrong = tuple(answer for answer in self.answers if answer not in Search(program).right())

    def most_falls(self, start):
        """The most falls on any way, by raising what is known of each state; more than there are wakings are endless."""
        wakings = {after for legs in self.legs.values() for fall, after in legs if fall}
        most = dict.fromkeys(self.legs, 0)
        rising = True
        while rising and max(most.values()) <= len(wakings):
            rising = False
            for state, legs in self.legs.items():
                best = max([fall + most[after] for fall, after in legs], default=0)
                if best > most[state]:
                    most[state] = best
                    rising = True
        return None if rising else most[start]


def random_event(pick, live):
    """An event that is often possible, and sometimes not."""
    marks = [at for at, line in enumerate(live.model.code) if line[0] in ("mark", "off")] or [0]
    choices = live.model.choices()
    kind = pick.random()
    if choices and kind < 0.45:
        return ("step", pick.choice(choices))
    if kind < 0.65:
        return ("fall",)
    if kind < 0.72:
        return ("charge", max(0, live.charge + pick.choice((-3, -2, -1, 0, 1, 2, 5))))
    if kind < 0.84:
        return (pick.choice(("off", "on")), pick.choice([*marks, *marks, 0, 1, 9]))
    if kind < 0.92:
        return ("note", pick.choice("abcdefgh"))
    return ("step", pick.choice(((), (0,), (1,), (9,))))
