"""[9] (E8), [42], [43], [44]: loops without falls, and order papers."""

from enoughcharge.errors import NotUsable
from enoughcharge.kinds import is_number
from enoughcharge.loops import has_own_loop, order_paper, own_loop
from enoughcharge.moments import moment_after_step
from enoughcharge.numbering import most_falls
from enoughcharge.programchanges import with_instruction
from enoughcharge.runs import lets_run, moment_after, width_of
from tests.papers import order_faults
from tests.samples import ANYTHING, COUNT, LATE, LOOP, MIXED, NOTHING, SIXTY, TWICE, Checks
from tests.search import small_searches

# A round behind a fall of width 5 alone: without it x is 1 at place 3, with it 2.
HIDDEN = (
    (("q", "quick", 1, 0), ("x", "kept", 3, 0)),
    (("set", "x", ("plus", "x", 1), 1), ("set", "q", 1, 5), ("unless", ("equal", "x", 2), 4, 1), ("jump", 3, 2), ("end",)),
    ("x",),
)
# A round ahead of which there are steps, left by one of the answers of its ask.
ASKED = (
    (("k", "kept", 2, 0),),
    (("mark", 3), ("off", 1), ("ask", "k", 2), ("unless", ("less", "k", 2), 5, 1), ("jump", 2, 1), ("mark", 4), ("end",)),
    ("k",),
)


class LoopChecks(Checks):
    def told(self, program, charge):
        """Whether there is an own loop, behind a check of all that the module says of it."""
        has = has_own_loop(program, charge)
        self.assertIn(has, (True, False))
        self.same(has_own_loop(charge=charge, program=program), has)
        loop = own_loop(program, charge)
        self.same(own_loop(charge=charge, program=program), loop)
        paper = order_paper(program, charge)
        self.same(order_paper(charge=charge, program=program), paper)
        if has:
            self.is_loop(program, charge, loop)
            self.same(paper, None)
        else:
            self.same(loop, None)
            self.is_paper(program, charge, paper)
        return has

    def is_loop(self, program, charge, loop):
        self.assertIs(loop.__class__, tuple)
        made, turn = loop
        lets_run(program, made)
        self.assertTrue(width_of(program, made) is None or width_of(program, made) >= charge)
        self.assertIs(turn.__class__, tuple)
        self.assertGreater(len(turn), 0)
        moment = moment_after(program, made)
        for step in turn:
            moment = moment_after_step(program, moment, step)
        self.same(moment, moment_after(program, made))

    def is_paper(self, program, charge, paper):
        for row in (paper,) + paper:
            self.assertIs(row.__class__, tuple)
        for waking, table in paper:
            self.assertIs(table.__class__, tuple)
            for triple in table:
                self.assertIs(triple.__class__, tuple)
                moment, bound, number = triple
                self.assertTrue(is_number(bound) and is_number(number))
        self.same(list(order_faults(program, charge, paper)), [])


class LoopTest(LoopChecks):
    def test_samples(self):
        for charge in (0, 1, 2, 3, 4, 5, 9, 99, SIXTY):
            for program, has in ((COUNT, False), (TWICE, False), (LATE, False), (NOTHING, False), (LOOP, True), (ASKED, True)):
                self.same(self.told(program, charge), has)

    def test_loops_ahead_of_falls(self):
        self.same(own_loop(LOOP, 7), (((),), ((),)))
        made, turn = own_loop(ASKED, 99)
        self.same([len(made), len(turn)], [1, 3])
        self.same(self.told(((), (("off", 1), ("jump", 0, 2)), ()), 3), True)

    def test_a_loop_that_only_a_fall_reaches(self):
        for charge in range(12):
            self.same(self.told(HIDDEN, charge), charge <= 6)
        made, turn = own_loop(HIDDEN, 5)
        self.same([len(made), made[0], turn], [2, ((), ()), ((),)])

    def test_a_loop_that_only_wider_falls_reach(self):
        wider = with_instruction(HIDDEN, 1, ("set", "q", 1, 9))
        for charge in range(14):
            self.same(self.told(wider, charge), charge <= 10)
        three = (HIDDEN[0], HIDDEN[1][:2] + (("unless", ("equal", "x", 3), 4, 1),) + HIDDEN[1][3:], HIDDEN[2])
        self.same([has_own_loop(three, charge) for charge in (0, 5, 6, 7)], [True, True, True, False])
        self.same(len(own_loop(three, 5)[0]), 3)

    def test_a_loop_behind_marks_and_falls(self):
        program = (
            (("k", "kept", 1, 0),),
            (("mark", 2), ("unless", ("equal", "k", 1), 4, 1), ("jump", 2, 1), ("end",), ("set", "k", 1, 1), ("set", "k", 1, 3), ("end",)),
            (),
        )
        # Behind the mark k becomes 1, then 3 is due where 2 is spent since the mark, and 2 ahead of it.
        for charge in range(10):
            self.same(self.told(program, charge), charge <= 6)

    def test_no_later_place_no_loop(self):
        for charge in (0, 3, 99):
            self.same(self.told(with_instruction(MIXED, 7, ("end",)), charge), False)

    def test_charges_that_are_no_numbers(self):
        for thing in ANYTHING:
            if repr(thing) not in ("0", "1", "7", repr(SIXTY)):
                for function in (has_own_loop, own_loop, order_paper):
                    for program in (COUNT, LOOP, NOTHING):
                        self.refused(NotUsable, {"word": "charge", "at": -1}, function, program, thing)
                    self.refused(NotUsable, {"word": "charge", "at": -1}, function, charge=thing, program=LOOP)


class OrderPaperTest(LoopChecks):
    def test_numbers_fall_along_each_answer(self):
        program = ((("k", "kept", 2, 0),), (("ask", "k", 1), ("unless", ("equal", "k", 1), 4, 1), ("off", 2), ("set", "k", 0, 1), ("end",)), ())
        for charge in (0, 1, 2, 3, 9):
            self.same(self.told(program, charge), False)
        table = order_paper(program, 9)[0][1]
        numbers = {moment: number for moment, _, number in table}
        first = ((0, ()), 0, (0,))
        self.assertEqual([after in numbers and numbers[after] < numbers[first] for after in (((0, ()), 1, (k,)) for k in range(3))], [True] * 3)

    def test_rows_of_each_waking_that_can_come(self):
        self.same([len(order_paper(COUNT, charge)) for charge in (0, 2, 4, 6, 7, 8, 9, 99)], [3, 3, 3, 3, 2, 2, 1, 1])
        self.same([row[0] for row in order_paper(COUNT, 0)], [((0, ()), 0, (value,)) for value in range(3)])

    def test_with_rings_too(self):
        for charge in (0, 2, 5, 6):
            for program in (COUNT, TWICE, LATE):
                self.same(self.told(program, charge), False)


class AgainstSearchTest(LoopChecks):
    def test_random_programs(self):
        behind = 0
        for search in small_searches(95, 400):
            before = True
            for charge in (0, 1, 2, 4, 7, 12, 30):
                has = self.told(search.program, charge)
                self.same(has, search.has_own_loop(charge))
                self.assertTrue(before or not has)
                before = has
                behind += has and len(own_loop(search.program, charge)[0]) > 1
        self.assertGreater(behind, 3)

    def test_without_jumps_back(self):
        for search in small_searches(92, 300):
            _, code, _ = search.program
            forward = all(at < line[-2] for at, line in enumerate(code) if line[0] in ("jump", "unless"))
            for charge in (0, 5):
                if forward:
                    self.same(self.told(search.program, charge), False)
                    if most_falls(search.program, charge) is not None:
                        self.assertGreater(len(order_paper(search.program, charge)), most_falls(search.program, charge))
