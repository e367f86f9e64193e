"""[5], [6], [7], [24] to [27]: runs, their wakings and their widths."""

from enoughcharge.errors import InvalidPaper, NotUsable
from enoughcharge.moments import first_moment, is_moment, waking_of
from enoughcharge.runs import (
    is_ring, is_run, lets_run, moment_after, spent_after, wakings_of, width_of, widths_of,
)
from tests.model import random_runs
from tests.samples import ANYTHING, COUNT, LATE, LOOP, MIXED, NEITHER, NOTHING, SIXTY, TWICE, Checks, with_changed

MADE = (((), ()), ((),))
ASKED = ((("a", "saved", 2, 0),), (("off", 7), ("ask", "a", 3), ("mark", 4), ("unless", ("equal", "a", 2), 5, 1), ("jump", 0, 2),
                                   ("end",)), ("a",))
TELLERS = (moment_after, spent_after, wakings_of, widths_of, width_of, is_ring)


class RunChecks(Checks):
    def not_usable(self, word, function, *given, **named):
        self.refused(NotUsable, {"word": word, "at": -1}, function, *given, **named)

    def invalid(self, word, at, program, thing):
        self.refused(InvalidPaper, {"word": word, "at": at}, lets_run, program, thing)
        self.assertIs(is_run(program, thing), False)
        for function in TELLERS:
            self.not_usable("made", function, program, thing)

    def told(self, program, made):
        """All that the module tells of a run, first by position and then by name."""
        got = [lets_run(program, made)] + [function(program, made) for function in TELLERS]
        named = [lets_run(program=program, thing=made)] + [function(program=program, made=made) for function in TELLERS]
        self.same(named, got)
        self.assertIs(is_run(program, made), True)
        self.assertIs(is_run(program=program, thing=made), True)
        return got


class RunTest(RunChecks):
    def test_unbroken_runs(self):
        first = first_moment(COUNT)
        self.same(self.told(COUNT, ((),)), [0, first, 0, (first,), (), None, False])
        after = ((0, ()), 3, (2,))
        self.same(self.told(COUNT, (((),) * 7,)), [0, after, 9, (first,), (), None, False])
        self.same(self.told(NOTHING, ((),)), [0, ((0, ()), 0, ()), 0, (((0, ()), 0, ()),), (), None, False])

    def test_falls_of_count(self):
        wakings = tuple(((0, ()), 0, (value,)) for value in (0, 1, 1, 1, 2, 2))
        made = (((), ()), (), ((),), ((), ()), (), ((),))
        self.same(self.told(COUNT, made[:2]), [1, wakings[1], 0, wakings[:2], (3,), 3, False])
        self.same(self.told(COUNT, made[:3]), [2, ((0, ()), 1, (1,)), 1, wakings[:3], (3, 0), 0, False])
        self.same(self.told(COUNT, made), [5, ((0, ()), 3, (2,)), 1, wakings, (3, 0, 2, 3, 0), 0, False])
        self.same(self.told(COUNT, made[:4] + ((),)), [4, wakings[4], 0, wakings[:5], (3, 0, 2, 3), 0, False])
        self.same(self.told(COUNT, made[:3] + ((),)), [3, wakings[1], 0, wakings[:4], (3, 0, 2), 0, True])

    def test_marks_and_asks(self):
        first = first_moment(ASKED)
        back = ((3, (1,)), 3, (1,))
        made = (((), (2,)), ((), (1,), ()), ((), ()), ())
        self.same(self.told(ASKED, made[:1]), [0, ((0, (0,)), 2, (2,)), 3, (first,), (), None, False])
        self.same(self.told(ASKED, made[:2]), [1, back, 7, (first, first), (6,), 6, False])
        self.refused(InvalidPaper, {"word": "fall", "at": 2}, lets_run, ASKED, (made[0], made[1], ((),), ()))
        program = (ASKED[0], ASKED[1][:3] + (("unless", ("equal", "a", 1), 5, 1),) + ASKED[1][4:], ASKED[2])
        after = ((3, (1,)), 1, (1,))
        self.same(self.told(program, made[:2] + (((), ()) + ((),),)), [2, after, 3, (first, first, back), (6, 7), 6, False])
        self.same(self.told(program, made[:2] + (((), (), ()), ())), [3, back, 0, (first, first, back, back), (6, 7, 5), 5, True])
        self.same(self.told(program, made[:2] + ((), ())), [3, back, 0, (first, first, back, back), (6, 7, 0), 0, True])

    def test_kinds_of_cells_at_a_fall(self):
        cells = (("k", "kept", 3, 1), ("q", "quick", 3, 1), ("s", "saved", 3, 1))
        code = tuple(("set", name, 3, 2) for name in "kqs") + (("mark", 3),) + tuple(("set", name, 2, 4) for name in "kqs")
        program = (cells, code + (("off", 5), ("jump", 0, 6)), ("k", "s"))
        wakings = (((0, (1,)), 0, (1, 1, 1)), ((0, (1,)), 0, (3, 1, 1)), ((4, (3,)), 4, (2, 1, 3)))
        made = (((),) * 3, ((),) * 8, ((),) * 3)
        self.same(self.told(program, made), [2, ((4, (3,)), 7, (2, 2, 2)), 12, wakings, (8, 26), 8, False])
        self.invalid("fall", 2, program, made + ((),))
        self.invalid("fall", 1, program, (made[0], ((),) * 7, ()))

    def test_rings_at_the_first_moment(self):
        for program in (COUNT, TWICE, LATE, LOOP, MIXED):
            first = first_moment(program)
            width = program[1][0][-1] - 1
            self.same(self.told(program, ((), ())), [1, first, 0, (first, first), (width,), width, True])
            self.same(self.told(program, ((),) * 13)[5:], [width, True])
            self.same(self.told(program, ((),))[5:], [None, False])
        self.same(self.told(TWICE, (((),), ()))[5:], [5, False])
        self.same(self.told(LATE, (((),), ()))[5:], [6, True])

    def test_the_last_stretch_of_a_ring_is_empty(self):
        self.same(self.told(LOOP, ((), ((),)))[6], False)
        self.same(self.told(LOOP, (((),), ((), ()), ()))[4:], [(3, 5), 3, True])

    def test_a_ring_ends_as_one_of_its_wakings(self):
        made = tuple(((),) for _ in range(4))
        self.same(self.told(TWICE, made + ((),))[3:], [
            tuple(((0, ()), 0, (0, value)) for value in (0, 1, 2, 3, 0)), (5,) * 4, 5, True,
        ])
        self.same(self.told(TWICE, made[1:] + ((),))[6], False)

    def test_big_costs(self):
        program = ((), (("mark", SIXTY), ("jump", 0, SIXTY)), ())
        self.same(self.told(program, (((), (), ()), ((),), ()))[2:6], [0, (((0, ()), 0, ()), ((1, ()), 1, ()), ((1, ()), 1, ())),
                                                                      (4 * SIXTY - 1, 2 * SIXTY - 1), 2 * SIXTY - 1])

    def test_long_runs(self):
        self.same(self.told(LOOP, (((),) * 5000,))[2], 10000)
        self.same(self.told(LOOP, ((),) * 501)[0], 500)


class NoRunTest(RunChecks):
    def test_shape(self):
        for thing in (None, 0, True, "", "run", (), [], [()], ([],), ((), []), ((), None), (0,), ("",), (((),), 1), ((0,), "x")):
            self.invalid("shape", -1, COUNT, thing)

    def test_steps(self):
        for wrong in NEITHER + (0, (0,), (1,), ((),), (0, 0), "step", COUNT):
            self.invalid("step", (0, 0), COUNT, ((wrong,),))
            self.invalid("step", (0, 2), COUNT, (((), (), wrong, (), wrong),))
            self.invalid("step", (2, 1), COUNT, (((),), (), ((), wrong), (wrong,)))
        for wrong in NEITHER + ((), (3,), (-1,), (True,), (False,), ("1",), [1], 1, (1, 1), ((1,),)):
            self.invalid("step", (0, 1), ASKED, (((), wrong, ()),))
            self.invalid("step", (1, 1), ASKED, (((), (2,)), ((), wrong)))

    def test_no_step_behind_the_end(self):
        self.invalid("step", (0, 7), COUNT, (((),) * 8,))
        self.invalid("step", (0, 0), NOTHING, (((),),))
        self.invalid("step", (1, 2), TWICE, (((),), ((),) * 4))

    def test_falls_where_no_cost_is_due(self):
        self.invalid("fall", 0, NOTHING, ((), ()))
        self.invalid("fall", 0, ASKED, ((), ()))
        self.invalid("fall", 0, COUNT, (((),) * 7, ()))
        self.invalid("fall", 1, TWICE, (((),), ((),) * 2, ((),)))
        self.invalid("fall", 1, ASKED, (((), (1,)), (), ()))

    def test_the_first_fault_counts(self):
        self.invalid("step", (0, 1), COUNT, (((), 0), (0,)))
        self.invalid("fall", 0, ASKED, ((), (0,)))
        self.invalid("step", (0, 0), ASKED, ((0,), ()))
        self.invalid("shape", -1, ASKED, ((0,), None))
        self.invalid("step", (1, 0), ASKED, (((), (0,)), ((0,),), ((),)))

    def test_any_value(self):
        for thing in ANYTHING:
            if thing not in ((), ((),), ((), (), ())):
                self.assertIs(is_run(COUNT, thing), False)
        for program in (COUNT, TWICE, LATE, LOOP, MIXED):
            self.assertIs(is_run(program, ((), (), ())), True)


class AgainstModelTest(RunChecks):
    def test_random_runs(self):
        rings = 0
        for program, made, model, met in random_runs(3, 600):
            widths = met["widths"]
            wakings = met["wakings"]
            ring = made[-1] == () and wakings[-1] in wakings[:-1]
            rings += ring
            self.same(self.told(program, made), [
                len(made) - 1, model.moment(), model.spent, tuple(wakings), tuple(widths), min(widths) if widths else None, ring,
            ])
        self.assertGreater(rings, 20)

    def test_random_faults(self):
        for program, made, model, _ in random_runs(4, 300):
            if not model.due():
                self.invalid("fall", len(made) - 1, program, made + ((),))
            for k, stretch in enumerate(made):
                for j in range(len(stretch)):
                    spoilt = with_changed(made, k, with_changed(stretch, j, (4,)))
                    self.refused(InvalidPaper, {"word": "step", "at": (k, j)}, lets_run, program, spoilt)

    def test_consequences(self):
        for program, made, _, _ in random_runs(5, 300):
            for moment in wakings_of(program, made):
                self.assertTrue(is_moment(program, moment))
                self.same(waking_of(program, moment), moment)
            if len(made) > 1:
                self.assertTrue(is_run(program, made[:-1]))
                shorter = width_of(program, made[:-1])
                self.assertTrue(shorter is None or shorter >= width_of(program, made))
                self.same(widths_of(program, made[:-1]), widths_of(program, made)[:-1])
