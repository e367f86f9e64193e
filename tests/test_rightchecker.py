"""[49], [50]: the checker of papers of right and wrong answers."""

import random

from enoughcharge.answers import least_right
from enoughcharge.errors import InvalidPaper, NotUsable
from enoughcharge.rightchecker import lets_right
from enoughcharge.rightpapers import right_paper
from tests.papers import right_faults, spoilt
from tests.samples import ANYTHING, COUNT, LATE, LOOP, NOTHING, SIXTY, TWICE, Checks, with_changed
from tests.search import small_searches
from tests.test_answers import ASKED, NARROW, TURN

BACK = (0, ())
START, STEPPED, OVER = (BACK, 0, (0, 0)), (BACK, 1, (0, 1)), (BACK, 2, (1, 1))
TABLE = ((START, 0), (STEPPED, 1), (OVER, 6))
SHOWN = (((1,), ((), ())),)
ROWS = ((START, TABLE),)
RIGHT = ("right", ROWS, SHOWN)
# A fall ahead of the long step: x is 1 already, and 2 at the end.
MADE = (((),), ((), ()))
WRONG = ("wrong", MADE, (START, STEPPED, OVER))
# With the charge 3 of a count: three rows, and one answer that is shown.
COUNTED = right_paper(COUNT, 3)


class CheckerChecks(Checks):
    def invalid(self, word, at, program, charge, thing):
        self.refused(InvalidPaper, {"word": word, "at": at}, lets_right, program, charge, thing)
        self.refused(InvalidPaper, {"word": word, "at": at}, lets_right, thing=thing, charge=charge, program=program)

    def bad(self, word, at, thing, program=TWICE, charge=6):
        self.invalid(word, at, program, charge, thing)
        self.same(next(right_faults(program, charge, thing)), (word, at))

    def first_fault(self, word, program, charge, thing):
        fault = next(right_faults(program, charge, thing))
        self.assertEqual(fault[0], word)
        self.invalid(*fault, program, charge, thing)

    def told(self, wanted, program, charge, thing):
        self.assertIs(lets_right(program, charge, thing), wanted)
        self.assertIs(lets_right(thing=thing, program=program, charge=charge), wanted)


class ShapeTest(CheckerChecks):
    def test_no_triples_of_a_word_and_its_values(self):
        for thing in ANYTHING + (
            "right", "wrong", "abc", RIGHT[:2], RIGHT + ((),), WRONG[:2], WRONG + ((),), list(RIGHT), list(WRONG), ("Right", ROWS, SHOWN),
            ("wrongs", MADE, ()), (None, ROWS, SHOWN), (True, ROWS, SHOWN), (("right",), ROWS, SHOWN), (["wrong"], MADE, ()),
            (ROWS, SHOWN, "right"), ("ring", ROWS, SHOWN), ("numbers", ROWS, SHOWN), ("right", {}, SHOWN),
        ):
            for program in (TWICE, NOTHING):
                self.invalid("shape", -1, program, 6, thing)

    def test_moments_that_are_no_tuple(self):
        for thing in (None, 3, True, "ab", [], [START], list(WRONG[2])):
            self.invalid("shape", -1, TWICE, 5, ("wrong", MADE, thing))
            self.invalid("shape", -1, TWICE, 5, ("wrong", None, thing))

    def test_rows_that_are_no_pairs(self):
        for rows in (None, 3, "ab", [ROWS[0]], list(ROWS), True):
            self.invalid("shape", -1, TWICE, 6, ("right", rows, SHOWN))
        for row in (None, (), 0, "ab", [START, TABLE], (START,), (START, TABLE, 0), (START, 0, TABLE), (START, None), (START, "ab"),
                    (START, list(TABLE)), (START, (None,)), (START, ((),)), (START, ((START,),)), (START, ((START, 0, 0),)), (START, ([START, 0],)),
                    (START, ((START, -1),)), (START, ((START, True),)), (START, ((START, None),)), (START, ((START, "0"),)), (START, ("ab",)),
                    (TABLE, START), (START, ((0, START),)), (START, ((START, [0]),))):
            self.invalid("shape", -1, TWICE, 6, ("right", (row,), SHOWN))
            self.invalid("shape", -1, TWICE, 6, ("right", (row, None), ()))
            self.invalid("shape", -1, TWICE, 6, ("right", ROWS + (row,), SHOWN))

    def test_shown_that_are_no_pairs(self):
        for shown in (None, 3, "ab", [SHOWN[0]], list(SHOWN), True, ((),), (((1,),),), (SHOWN[0] + (0,),), ([(1,), ((), ())],), (None,), ("ab",),
                      SHOWN + (None,)):
            self.invalid("shape", -1, TWICE, 6, ("right", ROWS, shown))
            self.invalid("shape", -1, TWICE, 6, ("right", (), shown))

    def test_a_right_shape_with_any_values(self):
        for thing in ANYTHING:
            self.invalid("row", 0, TWICE, 6, ("right", ((thing, ()),), ((thing, thing),)))
            self.invalid("table", (0, 0), TWICE, 6, ("right", ((START, ((thing, 0),)),), ()))
            self.invalid("shown", 0, TWICE, 6, ("right", ROWS, ((thing, thing),)))
            self.invalid("shown", 0, TWICE, 6, ("right", ROWS, ((thing, ((), ())),)))
            self.invalid("shown", 0, TWICE, 6, ("right", ROWS, (((1,), thing),)))
            self.invalid("run", -1, TWICE, 6, ("wrong", thing, ()))
            self.invalid("moment", 0, TWICE, 5, ("wrong", MADE, (thing,)))


class RightTest(CheckerChecks):
    def test_papers_that_hold(self):
        self.told(True, TWICE, 6, RIGHT)
        self.told(True, COUNT, 3, COUNTED)
        self.told(True, NOTHING, 0, ("right", (((BACK, 0, ()), (((BACK, 0, ()), 0),)),), (((), ()),)))
        # Nothing comes to an end, so nothing need be shown.
        self.told(True, LOOP, 3, ("right", (((BACK, 0, ()), (((BACK, 0, ()), 3),)),), ()))
        for charge in (6, 7, 99, SIXTY):
            self.told(True, TWICE, charge, RIGHT)

    def test_bounds_at_below_and_above_the_charge(self):
        for bound in (6, 7, 99, SIXTY):
            self.told(True, TWICE, 6, ("right", ((START, with_changed(TABLE, 2, (OVER, bound))),), SHOWN))
        self.bad("step", (0, 1), ("right", ((START, with_changed(TABLE, 2, (OVER, 5))),), SHOWN))
        self.bad("step", (0, 0), ("right", ((START, with_changed(TABLE, 1, (STEPPED, 0))),), SHOWN))
        # The bound 2 and the cost 5 are greater than the charge, though less is spent.
        self.bad("fall", (0, 1), ("right", ((START, with_changed(TABLE, 1, (STEPPED, 2))),), SHOWN))
        self.told(True, TWICE, 7, ("right", ((START, ((START, 0), (STEPPED, 2), (OVER, 7))),), SHOWN))
        # At least the charge is enough for what costs more, and such a fall leads to a row then.
        ahead, behind = (BACK, 0, ()), (BACK, 1, ())
        program = ((), (("jump", 1, 9), ("end",)), ())
        for bound in (4, 5, 9, SIXTY):
            self.told(True, program, 4, ("right", ((ahead, ((ahead, 0), (behind, bound))),), (((), ((),)),)))
        self.bad("step", (0, 0), ("right", ((ahead, ((ahead, 0), (behind, 3))),), (((), ((),)),)), program, 4)

    def test_more_rows_moments_and_answers_than_can_come(self):
        self.bad("answer", (0, 3), ("right", ((START, TABLE + (((BACK, 2, (1, 2)), 0),)),), SHOWN))
        self.told(True, TWICE, 6, ("right", ((START, TABLE[:2] + (((BACK, 2, (0, 1)), 0),) + TABLE[2:]),), SHOWN))
        rows = COUNTED[1]
        self.bad("answer", (2, 2), ("right", rows[:2] + ((rows[2][0], rows[2][1] + (((BACK, 3, (3,)), 0),)),), COUNTED[2]), COUNT, 3)
        last = ((BACK, 0, (3,)), (((BACK, 0, (3,)), 0), ((BACK, 3, (2,)), 9)))
        self.bad("step", (3, 0), ("right", rows + (last,), COUNTED[2]), COUNT, 3)
        # A waking need only be a moment, and its table may hold what its steps do not lead to.
        self.told(True, COUNT, 3, ("right", rows + (((BACK, 2, (1,)), rows[0][1]),), COUNTED[2]))

    def test_rows(self):
        rows = COUNTED[1]
        for word, at, changed in (
            ("row", 1, (rows[1], rows[0], rows[2])), ("row", 2, rows[:2] + rows[1:]), ("row", 1, (rows[0], ((BACK, 4, (0,)), rows[1][1]))),
            ("row", 0, (((BACK, False, (0,)), rows[0][1]),) + rows[1:]), ("row", 0, (([BACK, 0, (0,)], rows[0][1]),)),
            ("row", 2, rows[:2] + (((BACK, 0, (4,)), rows[2][1]),)), ("row", 0, (((BACK, 0, (True,)), rows[0][1]),)),
        ):
            self.bad(word, at, ("right", changed, COUNTED[2]), COUNT, 3)

    def test_tables(self):
        for at, table in ((1, (TABLE[1], TABLE[0])), (2, TABLE[:2] + TABLE[1:]), (0, ((None, 0),) + TABLE), (3, TABLE + ((START, 0),)),
                          (3, TABLE + (((BACK, 2, (True, 1)), 0),)), (1, (TABLE[0], ((BACK, 3, (0, 1)), 1)))):
            self.bad("table", (0, at), ("right", ((START, table),), SHOWN))

    def test_start_and_first(self):
        self.bad("start", 0, ("right", ((START, TABLE[1:]),), SHOWN))
        self.bad("start", 0, ("right", ((START, ()),), ()))
        self.bad("first", -1, ("right", (), SHOWN))
        self.bad("first", -1, ("right", COUNTED[1][1:], COUNTED[2]), COUNT, 3)

    def test_shown(self):
        for at, shown in (
            (0, (((2,), ((), ())),)), (0, (((1,), ((),)),)), (0, (((1,), ((), (), ())),)), (0, (((True,), ((), ())),)), (0, (([1], ((), ())),)),
            (0, ((1, ((), ())),)), (0, (((1, 1), ((), ())),)), (0, (((), ((), ())),)), (0, ((None, ((), ())),)), (0, (((1,), [(), ()]),)),
            (0, (((1,), ((), (0,))),)), (0, (((1,), ()),)), (0, (((1,), None),)), (1, SHOWN + SHOWN), (1, SHOWN + (((2,), ((), ())),)),
            (0, (((1,), (((), ()),)),)), (1, SHOWN + ((None, None),)),
        ):
            self.bad("shown", at, ("right", ROWS, shown))
        self.told(True, TWICE, 6, ("right", ROWS, SHOWN))

    def test_shown_are_ascending(self):
        word, rows, shown = right_paper(ASKED, 9)
        self.same([word, len(shown)], ["right", 12])
        self.told(True, ASKED, 9, (word, rows, shown))
        self.bad("shown", 1, (word, rows, (shown[1], shown[0]) + shown[2:]), ASKED, 9)
        self.bad("shown", 5, (word, rows, shown[:5] + shown[4:]), ASKED, 9)
        self.bad("shown", 3, (word, rows, with_changed(shown, 3, (shown[3][0], shown[2][1]))), ASKED, 9)
        self.first_fault("answer", ASKED, 9, (word, rows, shown[:4] + shown[5:]))

    def test_a_run_that_ends_need_not_be_the_shortest(self):
        round_about = ((("x", "kept", 1, 0),), (("ask", "x", 1), ("unless", ("equal", "x", 1), 0, 1), ("end",)), ("x",))
        word, rows, _ = right_paper(round_about, 2)
        for stretch in (((1,), ()), ((0,), (), (1,), ()), ((0,), ()) * 30 + ((1,), ())):
            self.told(True, round_about, 2, (word, rows, (((1,), stretch),)))
        self.bad("shown", 0, (word, rows, (((1,), ((0,), ())),)), round_about, 2)

    def test_steps(self):
        self.bad("step", (0, 0), ("right", ((START, (TABLE[0], TABLE[2])),), SHOWN))
        self.bad("step", (0, 1), ("right", ((START, TABLE[:2]),), SHOWN))
        word, rows, shown = right_paper(ASKED, 9)
        first = rows[0][1]
        for at in range(1, len(first)):
            self.first_fault("step", ASKED, 9, (word, ((rows[0][0], first[:at] + first[at + 1:]),) + rows[1:], shown))

    def test_a_moment_that_is_missing_with_a_charge_of_0(self):
        ahead, behind = (BACK, 0, ()), (BACK, 1, ())
        program = ((), (("off", 9), ("end",)), ())
        self.told(True, program, 0, ("right", ((ahead, ((ahead, 0), (behind, 0))),), (((), ((),)),)))
        self.bad("step", (0, 0), ("right", ((ahead, ((ahead, 0),)),), (((), ((),)),)), program, 0)

    def test_falls(self):
        self.bad("fall", (0, 1), RIGHT, charge=5)
        self.bad("fall", (0, 1), RIGHT, charge=0)
        rows = COUNTED[1]
        for missing in (1, 2):
            self.first_fault("fall", COUNT, 3, ("right", rows[:missing] + rows[missing + 1:], COUNTED[2]))

    def test_answers(self):
        self.bad("answer", (0, 2), ("right", ROWS, ()))
        self.bad("answer", (0, 0), ("right", (((BACK, 0, ()), (((BACK, 0, ()), 0),)),), ()), NOTHING, 0)

    def test_two_faults(self):
        gone = ((None, 0),)
        for first, thing in (
            (("row", 0), ("right", ((None, gone),), ())), (("table", (0, 0)), ("right", ((START, gone), (None, ())), ())),
            (("start", 0), ("right", ((START, ()), (None, ())), ())), (("row", 1), ("right", ((START, TABLE), (START, gone)), ())),
            (("table", (0, 1)), ("right", ((STEPPED, (TABLE[0], TABLE[0])),), ((1, 2),))), (("first", -1), ("right", ((STEPPED, TABLE),), ((1, 2),))),
            (("start", 0), ("right", ((STEPPED, TABLE[:1]),), ())), (("shown", 0), ("right", ((START, TABLE[:1]),), ((1, 2),))),
            (("shown", 1), ("right", ROWS, SHOWN + ((1, 2), (None, None)))), (("step", (0, 0)), ("right", ((START, ((START, 9),)),), ())),
            (("step", (0, 1)), ("right", ((START, with_changed(TABLE, 2, (OVER, 5))),), ())),
            (("fall", (0, 1)), ("right", ((START, with_changed(TABLE, 1, (STEPPED, 2))),), ())),
            (("answer", (0, 2)), ("right", ((START, TABLE), (STEPPED, TABLE[1:2])), ())),
        ):
            self.bad(*first, thing)


class WrongTest(CheckerChecks):
    def test_papers_that_hold(self):
        for charge in (0, 3, 5):
            self.told(False, TWICE, charge, WRONG)
        # All moments that come without a fall, and others whose steps lead to one of them.
        more = (START, STEPPED, (BACK, 1, (1, 1)), OVER)
        self.told(False, TWICE, 5, ("wrong", MADE, more))
        self.told(False, TWICE, 5, ("wrong", (((),), ((),), ((), ())), WRONG[2]))
        for program, charge in ((NARROW, 4), (TURN, 99)):
            self.told(False, program, charge, right_paper(program, charge))

    def test_no_run_that_ends_and_can_come(self):
        for made in (None, (), ((),), ((),) * 2, MADE[:1], (((),), ((),)), (((),), ((), (), ())), ((), ((), (), ())), [((),), ((), ())],
                     (((),), [(), ()]), (((), ()), ()), (((),), ((), (0,))), "wrong", 7):
            self.bad("run", -1, ("wrong", made, WRONG[2]), charge=5)
        for charge in (6, 7, SIXTY):
            self.bad("run", -1, WRONG, charge=charge)
        # A fall at once has the width 0.
        self.bad("run", -1, ("wrong", ((),) + MADE, WRONG[2]), charge=1)
        self.told(False, TWICE, 0, ("wrong", ((),) + MADE, WRONG[2]))

    def test_an_unbroken_run_comes_with_each_charge(self):
        # Its answer is right, so some moment of any paper has it.
        for charge in (0, 5, 6, SIXTY):
            self.bad("answer", 2, ("wrong", (((), ()),), WRONG[2]), charge=charge)

    def test_moments(self):
        for at, moments in ((1, (STEPPED, START, OVER)), (1, (START, START, STEPPED, OVER)), (0, (None, START, STEPPED, OVER)), (3, WRONG[2] + (OVER,)),
                            (3, WRONG[2] + (7,)), (2, (START, STEPPED, (BACK, 2, (True, 1)))), (0, ([BACK, 0, (0, 0)],)), (1, (START, (BACK, 3, (0, 1))))):
            self.bad("moment", at, ("wrong", MADE, moments), charge=5)

    def test_first_steps_and_answers(self):
        self.bad("first", -1, ("wrong", MADE, WRONG[2][1:]), charge=5)
        self.bad("first", -1, ("wrong", MADE, ()), charge=5)
        self.bad("step", 0, ("wrong", MADE, (START, OVER)), charge=5)
        self.bad("step", 1, ("wrong", MADE, (START, STEPPED)), charge=5)
        self.bad("answer", 3, ("wrong", MADE, WRONG[2] + ((BACK, 2, (1, 2)),)), charge=5)
        self.told(False, TWICE, 5, ("wrong", MADE, WRONG[2] + ((BACK, 2, (1, 3)),)))

    def test_two_faults(self):
        for first, made, moments in (
            (("run", -1), None, (None,)), (("run", -1), MADE[:1], ()), (("moment", 0), MADE, (None, 7)), (("moment", 1), MADE, (STEPPED, START)),
            (("first", -1), MADE, (STEPPED,)), (("step", 0), MADE, (START, (BACK, 2, (1, 2)))), (("answer", 2), MADE, (START, STEPPED, (BACK, 2, (0, 2)), OVER)),
            (("step", 1), MADE, (START, STEPPED, (BACK, 2, (1, 2)))),
        ):
            self.bad(*first, ("wrong", made, moments), charge=5)


class ArgumentTest(CheckerChecks):
    def test_charges_that_are_no_numbers(self):
        for thing in ANYTHING:
            if repr(thing) not in ("0", "1", "7", repr(SIXTY)):
                for paper in (RIGHT, WRONG, None, 3):
                    self.refused(NotUsable, {"word": "charge", "at": -1}, lets_right, TWICE, thing, paper)
                self.refused(NotUsable, {"word": "charge", "at": -1}, lets_right, thing=RIGHT, charge=thing, program=TWICE)

    def test_other_programs(self):
        for program in (COUNT, LATE, LOOP, NOTHING):
            self.invalid("row", 0, program, 6, RIGHT)
        self.invalid("run", -1, LOOP, 5, WRONG)
        self.invalid("run", -1, NOTHING, 5, WRONG)


class RandomTest(CheckerChecks):
    def test_what_the_package_returns_is_let_by(self):
        words = []
        for search in small_searches(141, 250):
            least = least_right(search.program)
            near = [least, max(least - 1, 0), least + 1] if least is not None else [50]
            for charge in near + [0, 4, 9]:
                paper = right_paper(search.program, charge)
                self.told(paper[0] == "right", search.program, charge, paper)
                self.same(paper[0] == "right", least is not None and charge >= least)
                words.append(paper[0])
        self.assertGreater(min(words.count("right"), words.count("wrong")), 80)

    def test_what_is_accepted_is_true(self):
        papers = []
        accepted = []
        for search in small_searches(142, 200):
            for charge in (1, 6, 20):
                papers.append((charge, right_paper(search.program, charge)))
            for other, paper in papers[-9:]:
                for charge in (other, other + 1, max(0, other - 1), 3):
                    try:
                        told = lets_right(search.program, charge, paper)
                    except InvalidPaper:
                        continue
                    self.assertIs(told, search.answers_at(charge) == search.right())
                    accepted.append(told)
        self.assertGreater(min(accepted.count(True), accepted.count(False)), 60)

    def test_spoilt_papers(self):
        pick = random.Random(143)
        words = {}
        for search in small_searches(144, 500):
            program = search.program
            least = least_right(program)
            for charge in {max(least - 1, 0), least, least + pick.randrange(1, 4)} if least is not None else {9}:
                paper = right_paper(program, charge)
                for _ in range(8):
                    changed = self.changed(pick, paper, list(search.steps))
                    fault = next(right_faults(program, charge, changed), None) if self.has_shape(changed) else ("shape", -1)
                    word = (paper[0], fault and fault[0])
                    words[word] = words.get(word, 0) + 1
                    if fault is None:
                        self.told(paper[0] == "right", program, charge, changed)
                        self.assertIs(paper[0] == "right", search.answers_at(charge) == search.right())
                    else:
                        self.invalid(*fault, program, charge, changed)
        rights = {("right", word) for word in (None, "shape", "row", "table", "start", "first", "shown", "step", "fall", "answer")}
        self.assertEqual(set(words) - {("wrong", "shape")}, rights | {("wrong", word) for word in (None, "run", "moment", "first", "step", "answer")})
        self.assertGreater(min(many for word, many in words.items() if word != ("wrong", "shape")), 4)

    def changed(self, pick, paper, moments):
        """The paper with one or two places of its second or third part changed."""
        for _ in range(pick.choice((1, 1, 2))):
            at = pick.choice((1, 1, 2))
            part = spoilt(pick, paper[at], moments)
            paper = with_changed(paper, at, part)
        return paper

    def has_shape(self, paper):
        word, first, second = paper
        if word == "wrong":
            return isinstance(second, tuple)

        def has_pairs(things):
            return isinstance(things, tuple) and all(isinstance(pair, tuple) and len(pair) == 2 for pair in things)
        return has_pairs(first) and has_pairs(second) and all(
            has_pairs(table) and all(isinstance(pair[1], int) for pair in table) for _, table in first)
