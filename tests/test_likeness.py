"""[8], [9] (E7), [58] to [60]: programs that are alike."""

from enoughcharge.errors import NotUsable
from enoughcharge.likeness import are_alike, are_alike_always, parting_charges
from enoughcharge.profileclasses import Profile
from enoughcharge.profiles import critical_charges, profile
from enoughcharge.programchanges import renamed, with_cell, with_costs, with_instruction, with_kind, with_marks, with_told
from enoughcharge.programclasses import Program
from tests.samples import ANYTHING, COUNT, LATE, LOOP, NOTHING, SIXTY, TWICE, Checks
from tests.search import small_searches, with_only
from tests.test_answers import TURN
from tests.test_profiles import STILL

OFF = with_marks(LATE, ())


class LikenessChecks(Checks):
    def parts(self, program, other, charges, at=()):
        """That these are the parting charges, and whether the programs are alike at others."""
        for one, two in ((program, other), (other, program)):
            self.same(parting_charges(one, two), charges)
            self.same(parting_charges(other=two, program=one), charges)
            self.assertIs(are_alike_always(one, two), charges == ())
            self.assertIs(are_alike_always(other=two, program=one), charges == ())
            for charge in charges:
                self.assertIs(are_alike(one, two, charge), False)
            for charge in at:
                self.assertIs(are_alike(one, two, charge), True)
                self.assertIs(are_alike(charge=charge, other=two, program=one), True)


class LikenessTest(LikenessChecks):
    def test_marks(self):
        self.parts(LATE, OFF, (6,), (0, 5, 7, 8, 99, SIXTY))
        self.parts(OFF, with_marks(OFF, ()), (), (0, 5, 6, 7, 99))

    def test_costs(self):
        # All widths are 5, or 6 or 9 with the dearer step.
        self.parts(TWICE, with_instruction(TWICE, 1, ("set", "q", 1, 6)), (6,), (0, 5, 7, 99))
        self.parts(TWICE, with_instruction(TWICE, 1, ("set", "q", 1, 9)), (6,), (0, 5, 10, 99))
        self.assertIs(are_alike(TWICE, with_instruction(TWICE, 1, ("set", "q", 1, 9)), 9), False)
        # The ring widths are 2 and 4.
        self.parts(COUNT, with_costs(COUNT, 1), (3,), (0, 2, 5, 99))
        self.assertIs(are_alike(COUNT, with_costs(COUNT, 1), 4), False)

    def test_an_instruction(self):
        other = with_instruction(TWICE, 0, ("set", "x", ("plus", "x", 2), 1))
        self.parts(TWICE, other, (0, 6))
        self.parts(NOTHING, LOOP, (0,))
        self.parts(LOOP, ((), (("off", 2), ("jump", 0, 3)), ()), (), (0, 7, SIXTY))

    def test_a_kind(self):
        self.parts(TWICE, with_kind(TWICE, "x", "saved"), (0,), (6, 7, 99))
        self.assertIs(are_alike(TWICE, with_kind(TWICE, "x", "saved"), 5), False)

    def test_right_and_wrong(self):
        # The same answers can come with 0, the right one is another.
        first = (TWICE[0], (("set", "x", ("plus", "x", 1), 1), ("set", "q", 1, 5), ("end",)), ("x",))
        second = (TWICE[0], (("set", "x", ("plus", "x", 3), 1), ("set", "q", 1, 5), ("end",)), ("x",))
        self.same([Profile(program)[0] for program in (first, second)], [(((0,), (1,), (2,), (3,)), True)] * 2)
        self.parts(first, second, (0, 6))

    def test_rings_alone(self):
        # Only rings tell the two apart, which come with 0 in one of them.
        self.parts(STILL, with_marks(STILL, (1,)), (0,), (2, 3, 99))
        self.assertIs(are_alike(STILL, with_marks(STILL, (1,)), 1), False)

    def test_a_cell_more(self):
        for kind in ("quick", "saved", "kept"):
            for program in (COUNT, TWICE, LATE, LOOP, NOTHING, TURN):
                self.parts(program, with_cell(program, ("more", kind, 3, 1)), (), (0, 3, 99))

    def test_told_names_must_be_equal(self):
        for other in (COUNT, LATE, NOTHING, with_told(TWICE, ()), renamed(TWICE, "x", "y"), with_told(with_kind(TWICE, "q", "kept"), ("q", "x"))):
            for function in (parting_charges, are_alike_always):
                self.refused(NotUsable, {"word": "other", "at": -1}, function, TWICE, other)
                self.refused(NotUsable, {"word": "other", "at": -1}, function, other=other, program=TWICE)
            for charge in (5, None, True):
                self.refused(NotUsable, {"word": "other", "at": -1}, are_alike, TWICE, other, charge)

    def test_what_is_no_program(self):
        for thing in ANYTHING + (list(TWICE), (TWICE[0], TWICE[1][:2], TWICE[2]), (TWICE[0], TWICE[1], ["x"]), TWICE + ((),), (TWICE[0], (), TWICE[2]),
                                 (((), (("jump", True, 1),), ()))):
            if thing != COUNT:
                for program in (TWICE, NOTHING):
                    self.refused(NotUsable, {"word": "other", "at": -1}, parting_charges, program, thing)
                    self.refused(NotUsable, {"word": "other", "at": -1}, are_alike_always, program, thing)
                    self.refused(NotUsable, {"word": "other", "at": -1}, are_alike, program, thing, None)
        with self.assertRaises(NotUsable):
            are_alike(TWICE, Program(*TWICE), 5)

    def test_charges_that_are_no_numbers(self):
        for thing in ANYTHING:
            if repr(thing) not in ("0", "1", "7", repr(SIXTY)):
                self.refused(NotUsable, {"word": "charge", "at": -1}, are_alike, LATE, OFF, thing)
                self.refused(NotUsable, {"word": "charge", "at": -1}, are_alike, charge=thing, other=LATE, program=LATE)

    def test_cells_of_other_names(self):
        for program in (COUNT, TWICE, LATE, TURN):
            other = program
            for at, cell in enumerate(program[0]):
                other = renamed(other, cell[0], "abc"[at] * 3)
            self.same(profile(other), profile(program))
        self.parts(TWICE, renamed(TWICE, "q", "a"), (), (0, 5, 6, 99))


class RandomTest(LikenessChecks):
    def pairs(self, seed, many):
        for search in small_searches(seed, many, 40):
            program = search.program
            others = [with_only(program, ()), with_costs(program, 1), program]
            others += [with_kind(program, name, "saved" if kind == "kept" else "kept") for name, kind, _, _ in program[0] if kind != "quick"]
            others += [with_instruction(program, at, (*line[:-1], line[-1] + 2)) for at, line in enumerate(program[1]) if line[0] != "end"][:3]
            for other in others:
                yield program, other

    def test_at_each_charge(self):
        met = {}
        for program, other in self.pairs(201, 70):
            told = [Profile(program), Profile(other)]
            right = [[answer for answer, is_right, _ in profile(one)[1] if is_right] for one in (program, other)]
            charges = {0, *critical_charges(program), *critical_charges(other)}
            parted = []
            for charge in range(max(charges) + 3):
                outcomes = [(*one[charge], [answer for answer in one[charge][0] if answer in known]) for one, known in zip(told, right)]
                alike = outcomes[0] == outcomes[1]
                self.assertIs(are_alike(program, other, charge), alike)
                # [59]: it is as at the greatest one of these charges that is not greater.
                self.assertIs(are_alike(program, other, max(known for known in charges if known <= charge)), alike)
                if charge in charges and not alike:
                    parted.append(charge)
            self.parts(program, other, tuple(parted))
            self.assertIs(are_alike_always(program, other), told[0] == told[1])
            met[len(parted)] = met.get(len(parted), 0) + 1
        self.assertGreater(min(met[0], met[1], met[2]), 10)

    def test_handed_on(self):
        for search in small_searches(202, 40):
            program = search.program
            others = [with_marks(program, ()), with_cell(program, ("more", "quick", 1, 0)), with_costs(program, 1), with_cell(with_costs(program, 1), ("more", "kept", 1, 0))]
            for charge in (0, 4, 9):
                for one in others:
                    for two in others:
                        if are_alike(program, one, charge) and are_alike(one, two, charge):
                            self.assertIs(are_alike(program, two, charge), True)
