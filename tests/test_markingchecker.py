"""[55]: the checker of papers of all sets of marks."""

import random

from enoughcharge.errors import InvalidPaper, NotUsable
from enoughcharge.markingchecker import lets_marks
from enoughcharge.markings import doing_sets, marks_paper
from enoughcharge.onchecker import lets_on
from enoughcharge.onpapers import on_paper
from enoughcharge.programparts import marks_of
from enoughcharge.rightchecker import lets_right
from enoughcharge.rightpapers import right_paper
from tests.papers import spoilt
from tests.samples import ANYTHING, COUNT, LATE, LOOP, NOTHING, SIXTY, TWICE, Checks, with_changed
from tests.search import all_sets, with_only
from tests.test_markings import FOUR, SAVED, marked_searches, searched_sets

PAPER = marks_paper(LATE, 7)
ROW = PAPER[0]


class CheckerChecks(Checks):
    def invalid(self, word, at, program, charge, thing):
        self.refused(InvalidPaper, {"word": word, "at": at}, lets_marks, program, charge, thing)
        self.refused(InvalidPaper, {"word": word, "at": at}, lets_marks, thing=thing, charge=charge, program=program)

    def told(self, program, charge, thing, sets):
        self.same(lets_marks(program, charge, thing), sets)
        self.same(lets_marks(thing=thing, program=program, charge=charge), sets)

    def refuses(self, function, program, charge, paper):
        """Whether a checker refuses a paper."""
        try:
            function(program, charge, paper)
        except InvalidPaper:
            return True
        return False


class LetsMarksTest(CheckerChecks):
    def test_what_the_package_returns(self):
        for program in (LATE, SAVED, FOUR, COUNT, TWICE, NOTHING, LOOP):
            for charge in (0, 3, 4, 6, 7, 13, 40):
                self.told(program, charge, marks_paper(program, charge), doing_sets(program, charge))

    def test_shape(self):
        for thing in ANYTHING + ("abc", list(PAPER), {}, (ROW, None), (None,), PAPER + ((),), PAPER + (3,)):
            if thing != ():
                self.invalid("shape", -1, LATE, 7, thing)
        for wrong in (None, (), 0, "abc", list(ROW), ROW[:2], ROW + (0,), (None,) + ROW[1:], (0,) + ROW[1:], ([],) + ROW[1:], ("",) + ROW[1:],
                      ((True,),) + ROW[1:], ((-1,),) + ROW[1:], (("1",),) + ROW[1:], ((None,),) + ROW[1:], (((1,),),) + ROW[1:]):
            for at in range(2):
                self.invalid("shape", -1, LATE, 7, with_changed(PAPER, at, wrong))

    def test_any_values_for_the_papers(self):
        for thing in ANYTHING:
            self.invalid("falls", 0, LATE, 7, (((), thing, ROW[2]), PAPER[1]))
            self.invalid("falls", 0, LATE, 7, (((), thing, thing), PAPER[1]))
            self.invalid("right", 0, LATE, 7, (((), ROW[1], thing), PAPER[1]))
            self.invalid("right", 1, LATE, 7, (ROW, PAPER[1][:2] + (thing,)))

    def test_sets(self):
        for thing in ((), PAPER[:1], PAPER[1:], PAPER[::-1], PAPER + PAPER[1:], (ROW, ROW), (ROW, ((0,),) + PAPER[1][1:]), (ROW, ((1, 1),) + PAPER[1][1:]),
                      PAPER + (((2,), None, None),), (ROW, ((SIXTY,),) + PAPER[1][1:])):
            self.invalid("sets", -1, LATE, 7, thing)
        for thing in ((), PAPER):
            self.invalid("sets", -1, COUNT, 7, thing)
        four = marks_paper(FOUR, 20)
        self.told(FOUR, 20, four, doing_sets(FOUR, 20))
        for at in range(16):
            self.invalid("sets", -1, FOUR, 20, four[:at] + four[at + 1:])
            self.invalid("sets", -1, FOUR, 20, four[:at] + four[at:at + 1] + four[at:])
        self.invalid("sets", -1, FOUR, 20, with_changed(four, 4, ((2, 1),) + four[4][1:]))
        self.invalid("sets", -1, FOUR, 20, four[:1] + (four[2], four[1]) + four[3:])

    def test_an_error_of_each_checker(self):
        # The papers are of other marks, or of another charge.
        for charge, thing, word, at in (
            (7, ((ROW[0], PAPER[1][1], ROW[2]), PAPER[1]), "falls", 0), (7, (ROW, ((1,), ROW[1], PAPER[1][2])), "falls", 1),
            (7, ((ROW[0], ROW[1], PAPER[1][2]), PAPER[1]), None, 0), (7, (ROW, ((1,), PAPER[1][1], ROW[2])), "right", 1),
            (5, PAPER, "falls", 0), (6, PAPER, "falls", 1),
        ):
            refused = [(name, k) for k, (places, on, right) in enumerate(thing) for name, function, paper in (("falls", lets_on, on), ("right", lets_right, right))
                       if self.refuses(function, with_only(LATE, places), charge, paper)]
            if word is None and not refused:
                self.told(LATE, charge, thing, doing_sets(LATE, charge))
            else:
                self.same(refused[0], (word, at) if word else refused[0])
                self.invalid(*refused[0], LATE, charge, thing)

    def test_the_error_of_the_checker_is_told(self):
        for thing, cause in (((((), None, None), PAPER[1]), ("shape", -1)), ((((), ("ring", (((),),)), ROW[2]), PAPER[1]), ("ring", -1)),
                             ((((), ROW[1], ("right", (), ())), PAPER[1]), ("first", -1)), ((((), ROW[1], ("wrong", (), ())), PAPER[1]), ("run", -1))):
            with self.assertRaises(InvalidPaper) as caught:
                lets_marks(LATE, 7, thing)
            self.assertIsInstance(caught.exception.__cause__, InvalidPaper)
            self.same((caught.exception.__cause__.word, caught.exception.__cause__.at), cause)

    def test_two_faults(self):
        for word, at, thing in (
            ("shape", -1, (((1,), None, None), None)), ("shape", -1, (PAPER[1], ((0,), None))), ("sets", -1, (((1,), None, None), ((), None, None))),
            ("falls", 0, (((), None, None), ((1,), None, None))), ("right", 0, ((ROW[0], ROW[1], None), ((1,), None, None))),
            ("falls", 1, (ROW, ((1,), None, None))), ("right", 1, (ROW, PAPER[1][:2] + (7,))),
        ):
            self.invalid(word, at, LATE, 7, thing)

    def test_charges_that_are_no_numbers(self):
        for thing in ANYTHING:
            if repr(thing) not in ("0", "1", "7", repr(SIXTY)):
                for paper in (PAPER, None, ()):
                    self.refused(NotUsable, {"word": "charge", "at": -1}, lets_marks, LATE, thing, paper)


class RandomTest(CheckerChecks):
    def test_what_is_accepted_is_true(self):
        pick = random.Random(181)
        words = {}
        for search in marked_searches(182, 70):
            program = search.program
            charge = pick.choice((0, 2, 5, 9, 14, 30))
            paper = marks_paper(program, charge)
            sets = searched_sets(program, charge)
            self.told(program, charge, paper, sets)
            for _ in range(6):
                changed = spoilt(pick, paper, list(search.steps))
                try:
                    self.same(lets_marks(program, charge, changed), sets)
                    words["told"] = words.get("told", 0) + 1
                except InvalidPaper as error:
                    words[error.word] = words.get(error.word, 0) + 1
                    if error.word in ("falls", "right"):
                        self.is_first(program, charge, changed, (error.word, error.at))
        self.assertEqual(set(words), {"told", "shape", "sets", "falls", "right"})

    def is_first(self, program, charge, paper, fault):
        for k, (places, on, right) in enumerate(paper):
            for word, function, thing in (("falls", lets_on, on), ("right", lets_right, right)):
                if self.refuses(function, with_only(program, places), charge, thing):
                    self.same(fault, (word, k))
                    return
        self.fail("nothing is refused")

    def test_papers_of_single_sets(self):
        for search in marked_searches(183, 40):
            for charge in (3, 11):
                paper = tuple((places, on_paper(with_only(search.program, places), charge), right_paper(with_only(search.program, places), charge))
                              for places in all_sets(marks_of(search.program)))
                self.told(search.program, charge, paper, doing_sets(search.program, charge))
