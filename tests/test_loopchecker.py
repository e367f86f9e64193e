"""[43]: the checker of order papers."""

import random

from enoughcharge.errors import InvalidPaper, NotUsable
from enoughcharge.loopchecker import lets_no_loop
from enoughcharge.loops import has_own_loop, order_paper
from tests.papers import order_faults, spoilt
from tests.samples import ANYTHING, COUNT, LATE, LOOP, NOTHING, SIXTY, TWICE, Checks, with_changed
from tests.search import small_searches

ZERO, ONE, TWO, THREE = [((0, ()), 0, (value,)) for value in range(4)]
ROWS = order_paper(COUNT, 4)
# Both answers lead on to places with numbers of their own.
ASKED = ((("k", "kept", 1, 0),), (("ask", "k", 1), ("unless", ("equal", "k", 1), 3, 1), ("off", 2), ("end",)), ("k",))


class CheckerChecks(Checks):
    def invalid(self, word, at, program, charge, thing):
        self.refused(InvalidPaper, {"word": word, "at": at}, lets_no_loop, program, charge, thing)
        self.refused(InvalidPaper, {"word": word, "at": at}, lets_no_loop, thing=thing, charge=charge, program=program)

    def bad(self, word, at, rows, charge=4, program=COUNT):
        self.invalid(word, at, program, charge, rows)
        self.same(next(order_faults(program, charge, rows)), (word, at))

    def told(self, program, charge, thing):
        self.same(lets_no_loop(program, charge, thing), len(thing))
        self.same(lets_no_loop(thing=thing, program=program, charge=charge), len(thing))


class LetsNoLoopTest(CheckerChecks):
    def test_the_paper_of_count(self):
        self.same(ROWS, (
            (ZERO, ((ZERO, 0, 7), (ONE, 4, 4), (TWO, 4, 1), (((0, ()), 1, (0,)), 1, 6), (((0, ()), 1, (1,)), 4, 3), (((0, ()), 2, (1,)), 3, 5),
                    (((0, ()), 2, (2,)), 4, 2), (((0, ()), 3, (2,)), 4, 0))),
            (ONE, ((ONE, 0, 4), (TWO, 4, 1), (((0, ()), 1, (1,)), 1, 3), (((0, ()), 2, (2,)), 3, 2), (((0, ()), 3, (2,)), 4, 0))),
            (TWO, ((TWO, 0, 1), (((0, ()), 3, (2,)), 1, 0))),
        ))
        self.told(COUNT, 4, ROWS)
        self.told(COUNT, 4, ROWS + ((THREE, ((THREE, 7, 9), (((0, ()), 3, (3,)), 9, 8))),))
        self.told(COUNT, 4, (ROWS[0], (ONE, tuple((moment, bound + 5, number * 3 + 1) for moment, bound, number in ROWS[1][1])), ROWS[2]))

    def test_shape(self):
        row = ROWS[1]
        for thing in ANYTHING + ("ab", ["ab"], list(ROWS), ("order", ROWS), (ROWS, "order"), {}):
            if thing not in ((), ((),), ((), (), ())):
                self.invalid("shape", -1, COUNT, 4, thing)
        for wrong in (None, (), 0, "ab", list(row), row[:1], row + ((),), (row[0], None), (row[0], list(row[1])), (row[0], "ab"), (row[0], ((),)),
                      (row[0], ((ONE, 0),)), (row[0], ((ONE, 0, 0, 0),)), (row[0], ([ONE, 0, 0],)), (row[0], ((ONE, -1, 0),)),
                      (row[0], ((ONE, 0, -1),)), (row[0], ((ONE, True, 0),)), (row[0], ((ONE, 0, False),)), (row[0], ((ONE, None, 0),)),
                      (row[0], ((ONE, 0, "0"),)), (row[0], (None,)), (row[1], row[0])):
            for at in range(3):
                self.invalid("shape", -1, COUNT, 4, with_changed(ROWS, at, wrong))
        self.invalid("shape", -1, COUNT, 4, ((None, ()), (None, None)))

    def test_rows_and_tables(self):
        self.bad("row", 1, (ROWS[1], ROWS[0], ROWS[2]))
        self.bad("row", 2, ROWS[:2] + ROWS[1:])
        self.bad("row", 0, ((None, ()),))
        self.bad("table", (0, 0), ((ZERO, ((None, 0, 0),)),))
        table = ROWS[0][1]
        self.bad("table", (0, 1), ((ZERO, (table[1], table[0])),))
        self.bad("table", (0, 2), ((ZERO, table[:2] + table[1:]),))
        self.bad("start", 0, ((ZERO, table[1:]),))
        self.bad("start", 1, (ROWS[0], (ONE, ())))
        self.bad("first", -1, ROWS[1:])
        self.bad("first", -1, ())
        for thing in ANYTHING:
            self.bad("row", 0, ((thing, ()),))
            self.bad("table", (0, 0), ((ZERO, ((thing, 0, 0),)),))

    def test_steps(self):
        table = ROWS[0][1]
        self.bad("step", (0, 0), ((ZERO, table[:3] + table[4:]),) + ROWS[1:])
        self.bad("step", (0, 3), ((ZERO, with_changed(table, 5, (table[5][0], 2, 5))),) + ROWS[1:])
        self.bad("step", (2, 0), ROWS[:2] + ((TWO, ((TWO, 0, 1), (((0, ()), 3, (2,)), 0, 0))),))
        self.bad("step", (0, 0), ((((0, ()), 0, (0,)), ((((0, ()), 0, (0,)), 0, 3), (((0, ()), 1, (0,)), 1, 2))),), 4, ASKED)

    def test_a_moment_that_is_missing_with_a_charge_of_0(self):
        ahead, behind = ((0, ()), 0, ()), ((0, ()), 1, ())
        program = ((), (("off", 9), ("end",)), ())
        self.told(program, 0, ((ahead, ((ahead, 0, 1), (behind, 0, 0))),))
        self.bad("step", (0, 0), ((ahead, ((ahead, 0, 1),)),), 0, program)

    def test_falls(self):
        self.bad("fall", (0, 2), ROWS[:2])
        self.bad("fall", (0, 1), ROWS[:1] + ROWS[2:])
        # Here a fall may lead back to its own row.
        self.told(COUNT, 0, order_paper(COUNT, 0))
        self.told(COUNT, 2, order_paper(COUNT, 2))

    def test_order(self):
        table = ROWS[0][1]
        for at, number, wrong in ((0, 6, 0), (0, 5, 0), (3, 5, 3), (3, 7, 0), (5, 4, 5), (7, 1, 2), (7, 2, 2), (1, 9, 5)):
            self.bad("order", (0, wrong), ((ZERO, with_changed(table, at, table[at][:2] + (number,))),) + ROWS[1:])
        self.bad("order", (2, 0), ROWS[:2] + ((TWO, ((TWO, 0, 1), (((0, ()), 3, (2,)), 1, 1))),))
        self.bad("order", (0, 0), ((((0, ()), 0, ()), ((((0, ()), 0, ()), 3, 0),)),), 3, LOOP)

    def test_each_answer_of_an_ask(self):
        (waking, table), (other, behind) = order_paper(ASKED, 0)
        at = [row[0] for row in table].index(((0, ()), 1, (1,)))
        low = [row[0] for row in table].index(((0, ()), 1, (0,)))
        for spoiled in (at, low):
            rows = ((waking, with_changed(table, spoiled, table[spoiled][:2] + (table[0][2],))), (other, behind))
            self.bad("order", (0, 0), rows, 0, ASKED)

    def test_two_faults(self):
        table = ROWS[0][1]
        self.bad("start", 0, ((ZERO, ()), (None, ())))
        self.bad("table", (0, 0), ((ONE, ((None, 0, 0), (None, 0, 0))), (None, ())))
        self.bad("row", 0, ((None, ((None, 0, 0),)),))
        self.bad("first", -1, ((ONE, ((ONE, 0, 0),)),))
        self.bad("step", (0, 0), ((ZERO, ((ZERO, 9, 0),)),))
        self.bad("fall", (0, 1), ((ZERO, with_changed(table, 1, (ONE, 4, 0))),))
        self.bad("order", (0, 0), ((ZERO, with_changed(table, 0, (ZERO, 0, 0))),))

    def test_charges_that_are_no_numbers(self):
        for thing in ANYTHING:
            if repr(thing) not in ("0", "1", "7", repr(SIXTY)):
                for paper in (ROWS, None, ()):
                    self.refused(NotUsable, {"word": "charge", "at": -1}, lets_no_loop, COUNT, thing, paper)


class RandomTest(CheckerChecks):
    def test_what_the_package_tells_is_accepted(self):
        for program in (COUNT, TWICE, LATE, NOTHING, ASKED):
            for charge in (0, 3, 9, 99):
                self.told(program, charge, order_paper(program, charge))
        for search in small_searches(101, 200):
            for charge in (0, 4, 9, 30):
                paper = order_paper(search.program, charge)
                if paper is not None:
                    self.told(search.program, charge, paper)

    def test_what_is_accepted_is_true(self):
        papers = []
        for search in small_searches(102, 150):
            for charge in (1, 6, 20):
                if not has_own_loop(search.program, charge):
                    papers.append((charge, order_paper(search.program, charge)))
            for other, paper in papers[-9:]:
                for charge in (other, other + 1, max(0, other - 1)):
                    try:
                        lets_no_loop(search.program, charge, paper)
                    except InvalidPaper:
                        continue
                    self.assertFalse(search.has_own_loop(charge))

    def test_spoilt_papers(self):
        pick = random.Random(103)
        words = {}
        for search in small_searches(104, 300):
            charge = pick.randrange(12)
            rows = order_paper(search.program, charge)
            for _ in range(12 if rows is not None else 0):
                changed = spoilt(pick, rows, list(search.steps))
                fault = next(order_faults(search.program, charge, changed), None) if self.has_shape(changed) else ("shape", -1)
                words[fault and fault[0]] = words.get(fault and fault[0], 0) + 1
                if fault is None:
                    self.told(search.program, charge, changed)
                else:
                    self.invalid(*fault, search.program, charge, changed)
        self.assertEqual(set(words), {None, "shape", "row", "table", "start", "first", "step", "fall", "order"})
        self.assertGreater(min(words.values()), 20)

    def has_shape(self, rows):
        if not all(isinstance(row, tuple) and len(row) == 2 and isinstance(row[1], tuple) for row in rows):
            return False
        return all(isinstance(triple, tuple) and len(triple) == 3 and isinstance(triple[1], int) and isinstance(triple[2], int)
                   for row in rows for triple in row[1])
