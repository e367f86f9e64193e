"""[6], [7], [9] (E1), (E3), (E4), [45] to [48]: the answers that can come, and the widest runs to them."""

from enoughcharge.answers import answer_width, answers_at, least_right, right_answers, run_to
from enoughcharge.errors import NotUsable
from enoughcharge.moments import answer_of
from enoughcharge.programchanges import with_costs, with_instruction, with_kind, with_marks, with_told
from enoughcharge.pumped import lets_pumped, pumped_out
from enoughcharge.runs import lets_run, moment_after, width_of
from tests.samples import ANYTHING, COUNT, LATE, LOOP, NOTHING, SIXTY, TWICE, Checks
from tests.search import small_searches
from tests.test_loops import HIDDEN

# A fall counts x; ahead of it there is a round, or not, as the outside answers.
TURN = (
    (("q", "quick", 1, 0), ("x", "kept", 3, 0)),
    (("set", "x", ("plus", "x", 1), 1), ("ask", "q", 2), ("unless", ("less", 0, "q"), 4, 1), ("jump", 1, 3), ("end",)),
    ("x",),
)
# A count that a fall of width 4 spoils, and one of width 9 behind it spoils again.
NARROW = (
    (("q", "quick", 1, 0), ("x", "kept", 3, 0)),
    (("set", "x", ("plus", "x", 1), 1), ("unless", ("less", "x", 2), 4, 1), ("set", "q", 1, 3), ("end",), ("set", "q", 1, 8), ("end",)),
    ("x",),
)
# The answers that the outside gives are told, behind a mark that is on.
ASKED = ((("a", "kept", 2, 0), ("b", "saved", 3, 1)), (("ask", "a", 1), ("mark", 2), ("ask", "b", 3), ("end",)), ("a", "b"))


class AnswerChecks(Checks):
    def told(self, program, answer, width, right):
        """That this is the answer width, and that run_to shows it."""
        self.same(answer_width(program, answer), width)
        self.same(answer_width(answer=answer, program=program), width)
        made = run_to(program, answer)
        self.same(run_to(answer=answer, program=program), made)
        self.same(answer in right_answers(program), right)
        if width is None:
            self.same([made, right], [None, False])
        elif right:
            self.same([width, lets_run(program, made)], ["endless", 0])
            self.same(answer_of(program, moment_after(program, made)), answer)
        elif width == "endless":
            self.assertGreater(lets_pumped(program, made), 0)
            for many in (0, 1, 2, 7):
                self.ends(program, pumped_out(program, made, many), many, answer)
        else:
            self.assertGreater(lets_run(program, made), 0)
            self.ends(program, made, width, answer)
            self.same(width_of(program, made), width)

    def ends(self, program, made, width, answer):
        self.assertGreaterEqual(width_of(program, made), width)
        self.same(answer_of(program, moment_after(program, made)), answer)

    def at(self, program, charge, answers):
        self.same(answers_at(program, charge), answers)
        self.same(answers_at(charge=charge, program=program), answers)


class AnswerTest(AnswerChecks):
    def test_twice(self):
        self.same(right_answers(TWICE), ((1,),))
        self.same(right_answers(program=TWICE), ((1,),))
        for charge in (0, 1, 4, 5):
            self.at(TWICE, charge, ((0,), (1,), (2,), (3,)))
        for charge in (6, 7, 99, SIXTY):
            self.at(TWICE, charge, ((1,),))
        for value, width in ((0, 5), (1, "endless"), (2, 5), (3, 5)):
            self.told(TWICE, (value,), width, value == 1)
        self.same(least_right(TWICE), 6)
        self.same(least_right(program=TWICE), 6)

    def test_count_and_late(self):
        for value, width in ((0, None), (1, None), (2, "endless"), (3, None)):
            self.told(COUNT, (value,), width, value == 2)
        self.told(LATE, (1,), "endless", True)
        self.told(LATE, (0,), None, False)
        self.same([least_right(COUNT), least_right(LATE)], [0, 0])

    def test_answers_by_falls_alone(self):
        # With x 1 there is an end, each further fall leads to another one.
        self.same(right_answers(NARROW), ((1,),))
        for answer, width in (((1,), "endless"), ((2,), 4), ((3,), 4), ((0,), 4)):
            self.told(NARROW, answer, width, answer == (1,))
        self.same(least_right(NARROW), 5)
        self.at(NARROW, 4, ((0,), (1,), (2,), (3,)))
        self.at(NARROW, 5, ((1,),))

    def test_no_end_without_a_fall(self):
        # The round is left only where x is 2 at first, which comes by a fall.
        program = (TURN[0], (("set", "x", ("plus", "x", 1), 1), ("set", "q", 1, 5), ("unless", ("equal", "x", 1), 4, 1), ("jump", 3, 2), ("end",)), ("x",))
        self.same(right_answers(program), ())
        self.told(program, (2,), "endless", False)
        self.told(program, (3,), 6, False)
        self.told(program, (0,), 6, False)
        self.told(program, (1,), None, False)
        self.same(least_right(program), None)
        for charge in (0, 6, 7, 99):
            self.at(program, charge, ((0,), (2,), (3,)) if charge < 7 else ((2,),))
        self.same(least_right(HIDDEN), 7)

    def test_endless_widths(self):
        self.same(right_answers(TURN), ((1,),))
        for value in range(4):
            self.told(TURN, (value,), "endless", value == 1)
        self.same(least_right(TURN), None)
        for charge in (0, 3, 99, SIXTY):
            self.at(TURN, charge, ((0,), (1,), (2,), (3,)))
        # The last step is the only one in a round: x can be 2 endlessly, 3 never.
        once = (TURN[0], TURN[1][:1] + (("unless", ("less", "x", 2), 5, 1),) + (("ask", "q", 2), ("unless", ("less", 0, "q"), 5, 1), ("jump", 2, 3), ("end",)), ("x",))
        self.told(once, (2,), "endless", False)
        self.told(once, (3,), 1, False)

    def test_a_number_behind_an_endless_fall(self):
        # Behind the endless fall x is 2; a fall to 3 has width 4 at most.
        program = (TURN[0], (
            ("set", "x", ("plus", "x", 1), 1), ("unless", ("equal", "x", 1), 4, 1), ("ask", "q", 2), ("unless", ("equal", "q", 1), 2, 1),
            ("set", "q", 1, 3), ("end",)), ("x",))
        for value, width in ((0, 4), (1, "endless"), (2, "endless"), (3, 4)):
            self.told(program, (value,), width, value == 1)
        self.same(least_right(program), None)
        self.at(program, 4, ((0,), (1,), (2,), (3,)))
        self.at(program, 5, ((1,), (2,)))

    def test_programs_that_never_end(self):
        for program in (LOOP, ((), (("off", 3), ("jump", 0, 1)), ()), ((("x", "kept", 2, 0),), (("set", "x", ("plus", "x", 1), 1), ("jump", 0, 2)), ("x",))):
            self.same([right_answers(program), least_right(program)], [(), 0])
            for charge in (0, 9, SIXTY):
                self.at(program, charge, ())
            self.told(program, tuple(0 for _ in program[2]), None, False)

    def test_no_told_cells(self):
        for program in (NOTHING, with_told(TWICE, ()), with_told(COUNT, ())):
            self.same([right_answers(program), least_right(program)], [((),), 0])
            self.told(program, (), "endless", True)
            self.at(program, 0, ((),))
        self.same(run_to(NOTHING, ()), ((),))
        hidden = with_instruction(with_told(HIDDEN, ()), 4, ("jump", 4, 1))
        self.same([right_answers(hidden), answers_at(hidden, 0), answer_width(hidden, ()), run_to(hidden, ())], [(), (), None, None])

    def test_several_told_cells(self):
        answers = tuple((a, b) for a in range(3) for b in range(4))
        self.same(right_answers(ASKED), answers)
        for answer in answers:
            self.told(ASKED, answer, "endless", True)
            self.same(run_to(ASKED, answer), (((answer[0],), (), (answer[1],)),))
        for charge in (0, 9):
            self.at(ASKED, charge, answers)
        self.same(least_right(ASKED), 0)

    def test_marks_on_and_off(self):
        marked = (TWICE[0], (("set", "x", ("plus", "x", 1), 1), ("mark", 2), ("set", "q", 1, 5), ("end",)), ("x",))
        off = with_marks(marked, ())
        self.same([least_right(marked), least_right(off), least_right(with_marks(marked, (1,)))], [3, 6, 3])
        for program, width in ((marked, 2), (off, 5)):
            for value in range(4):
                self.told(program, (value,), "endless" if value == 1 else width, value == 1)
            self.same(right_answers(program), ((1,),))

    def test_saved_and_kept(self):
        saved = with_kind(TWICE, "x", "saved")
        self.same([right_answers(saved), least_right(saved), answer_width(saved, (2,))], [((1,),), 0, None])

    def test_what_is_no_answer(self):
        for thing in ANYTHING + ((4,), (-1,), (True,), (False,), ("1",), [1], 1, (1, 1), ((1,),), ((),)):
            if thing != (0,) or "False" in repr(thing):
                for function in (answer_width, run_to):
                    self.refused(NotUsable, {"word": "answer", "at": -1}, function, TWICE, thing)
                    self.refused(NotUsable, {"word": "answer", "at": -1}, function, answer=thing, program=TWICE)
        for thing in ((0,), (0, 0, 0), (3, 0), (0, 4), (0, True), [0, 0], None):
            self.refused(NotUsable, {"word": "answer", "at": -1}, answer_width, ASKED, thing)
            self.refused(NotUsable, {"word": "answer", "at": -1}, run_to, ASKED, thing)
        self.refused(NotUsable, {"word": "answer", "at": -1}, run_to, NOTHING, (0,))

    def test_charges_that_are_no_numbers(self):
        for thing in ANYTHING:
            if repr(thing) not in ("0", "1", "7", repr(SIXTY)):
                self.refused(NotUsable, {"word": "charge", "at": -1}, answers_at, TWICE, thing)
                self.refused(NotUsable, {"word": "charge", "at": -1}, answers_at, charge=thing, program=LOOP)


class AgainstSearchTest(AnswerChecks):
    def test_random_programs(self):
        met = {}
        for search in small_searches(111, 350):
            program = search.program
            right = search.right()
            self.same(right_answers(program), right)
            charges = [0, 3, 8, 20]
            widths = []
            for answer in search.answers_at(0):
                width = answer_width(program, answer)
                self.told(program, answer, width, answer in right)
                if isinstance(width, int):
                    self.assertIn(answer, search.answers_at(width))
                    self.assertNotIn(answer, search.answers_at(width + 1))
                    charges += [width, width + 1]
                else:
                    self.assertIn(answer, search.answers_at(search.cap))
                if answer not in right:
                    widths.append(width)
                kind = ("right" if answer in right else width if width == "endless" else "number")
                met[kind] = met.get(kind, 0) + 1
            for charge in set(charges):
                self.at(program, charge, search.answers_at(charge))
            self.same(least_right(program), None if "endless" in widths else max(widths, default=-1) + 1)
        self.assertGreater(met["number"], 50)
        self.assertGreater(met["right"], 100)

    def test_answers_that_never_come(self):
        for search in small_searches(112, 100):
            cells = {name: top for name, _, top, _ in search.program[0]}
            answer = tuple(cells[name] for name in search.program[2])
            if answer not in search.answers_at(0):
                self.told(search.program, answer, None, False)

    def test_consequences(self):
        for search in small_searches(113, 150):
            program = search.program
            right = right_answers(program)
            before = answers_at(program, 0)
            least = least_right(program)
            for charge in (0, 2, 5, 9, 17, 40):
                now = answers_at(program, charge)
                self.assertTrue(set(right) <= set(now) <= set(before))
                self.assertIs(set(now) == set(right), least is not None and charge >= least)
                before = now
            self.same(right_answers(with_costs(program, 3)), right)
            self.same(right_answers(with_marks(program, ())), right)
            for name, kind, _, _ in program[0]:
                if kind != "quick":
                    self.same(right_answers(with_kind(program, name, "saved" if kind == "kept" else "kept")), right)
