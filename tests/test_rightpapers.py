"""[49], [50]: papers of right and wrong answers."""

import random

from enoughcharge.answers import least_right, right_answers
from enoughcharge.errors import NotUsable
from enoughcharge.kinds import is_number
from enoughcharge.rightpapers import right_paper
from tests.papers import right_faults
from tests.samples import ANYTHING, COUNT, LATE, LOOP, MIXED, NOTHING, SIXTY, TWICE, Checks
from tests.search import small_searches
from tests.test_answers import ASKED, NARROW, TURN
from tests.test_loops import HIDDEN


class PaperChecks(Checks):
    def told(self, program, charge):
        """The first word of the paper, behind a check of all that the document says of it."""
        paper = right_paper(program, charge)
        self.same(right_paper(charge=charge, program=program), paper)
        self.assertEqual([paper.__class__, len(paper)], [tuple, 3])
        word, first, second = paper
        self.assertIs(second.__class__, tuple)
        if word == "right":
            self.has_kinds(first, second)
        else:
            self.same(word, "wrong")
        self.same(list(right_faults(program, charge, paper)), [])
        return word

    def has_kinds(self, rows, shown):
        self.assertIs(rows.__class__, tuple)
        for pair in rows + shown + tuple(entry for row in rows for entry in row[1]):
            self.assertEqual([pair.__class__, len(pair)], [tuple, 2])
        for _, table in rows:
            self.assertIs(table.__class__, tuple)
            self.assertTrue(all(is_number(bound) for _, bound in table))


class PaperTest(PaperChecks):
    def test_below_on_and_above_least_right(self):
        for program, least in ((TWICE, 6), (NARROW, 5), (HIDDEN, 7)):
            self.same(least_right(program), least)
            for charge in (0, 1, least - 1, least, least + 1, least + 9, 99, SIXTY):
                self.same(self.told(program, charge), "wrong" if charge < least else "right")

    def test_only_right_answers(self):
        for program in (COUNT, LATE, NOTHING, LOOP, ASKED, ((), (("off", 3), ("jump", 0, 1)), ())):
            for charge in (0, 1, 2, 3, 9, SIXTY):
                self.same(self.told(program, charge), "right")
        self.same(right_paper(NOTHING, 4), ("right", ((((0, ()), 0, ()), ((((0, ()), 0, ()), 0),)),), (((), ()),)))

    def test_wrong_answers_with_each_charge(self):
        for charge in (0, 1, 7, 50, 99, 301):
            self.same(self.told(TURN, charge), "wrong")

    def test_shown_are_all_right_answers(self):
        _, _, shown = right_paper(ASKED, 3)
        self.same(tuple(answer for answer, _ in shown), right_answers(ASKED))
        self.same(dict(shown)[(2, 3)], ((2,), (), (3,)))

    def test_rings_do_no_harm(self):
        self.same(self.told(COUNT, 0), "right")
        self.same(len(right_paper(COUNT, 0)[1]), 3)
        self.same(self.told(MIXED, 0), self.told(MIXED, 0))

    def test_charges_that_are_no_numbers(self):
        for thing in ANYTHING:
            if repr(thing) not in ("0", "1", "7", repr(SIXTY)):
                for program in (COUNT, LOOP, TWICE):
                    self.refused(NotUsable, {"word": "charge", "at": -1}, right_paper, program, thing)
                self.refused(NotUsable, {"word": "charge", "at": -1}, right_paper, charge=thing, program=NOTHING)


class AgainstSearchTest(PaperChecks):
    def test_random_programs(self):
        words = []
        pick = random.Random(121)
        for search in small_searches(122, 250):
            least = least_right(search.program)
            near = [least, max(least - 1, 0), least + 1] if least is not None else [40]
            for charge in near + [0, pick.randrange(12)]:
                words.append(self.told(search.program, charge))
                only = set(search.answers_at(charge)) <= set(search.right())
                self.same(words[-1], "right" if only else "wrong")
                self.same(words[-1], "right" if least is not None and charge >= least else "wrong")
        self.assertGreater(min(words.count("right"), words.count("wrong")), 60)
