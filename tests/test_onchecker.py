"""[38]: the checker of papers of falls."""

import random

from enoughcharge.errors import InvalidPaper, NotUsable
from enoughcharge.onchecker import lets_on
from enoughcharge.onpapers import on_paper
from enoughcharge.rings import falls_end, ring_run, ring_width
from tests.papers import on_faults, spoilt
from tests.samples import ANYTHING, COUNT, LATE, LOOP, NOTHING, SIXTY, TWICE, Checks, with_changed
from tests.search import small_searches

ZERO, ONE, TWO, THREE = [((0, ()), 0, (value,)) for value in range(4)]
ROWS = on_paper(COUNT, 4)[1]
RING = (((),), ())


def with_table(rows, at, table):
    return with_changed(rows, at, with_changed(rows[at], 2, table))


class CheckerChecks(Checks):
    def invalid(self, word, at, program, charge, thing):
        self.refused(InvalidPaper, {"word": word, "at": at}, lets_on, program, charge, thing)
        self.refused(InvalidPaper, {"word": word, "at": at}, lets_on, thing=thing, charge=charge, program=program)

    def bad(self, word, at, rows, charge=4):
        self.invalid(word, at, COUNT, charge, ("numbers", rows))
        self.same(next(on_faults(COUNT, charge, rows)), (word, at))

    def told(self, wanted, program, charge, thing):
        self.assertIs(lets_on(program, charge, thing), wanted)
        self.assertIs(lets_on(thing=thing, program=program, charge=charge), wanted)


class ShapeTest(CheckerChecks):
    def test_no_pairs_of_a_word_and_rows(self):
        for thing in ANYTHING + ("ring", ("ring",), ("ring", RING, 1), ["ring", RING], ("rings", RING), (RING, "ring"), (("ring",), RING),
                                 ("numbers",), ("numbers", None), ("numbers", [ROWS[0]]), ("numbers", list(ROWS)), ("numbers", ROWS, ()),
                                 ("right", ROWS), (None, ROWS), "numbers", (True, ROWS), ({}, ROWS)):
            self.invalid("shape", -1, COUNT, 4, thing)

    def test_rows_that_are_no_triples(self):
        row = ROWS[1]
        for wrong in (None, (), 0, "abc", list(row), row[:2], row + (0,), (row[0], -1, row[2]), (row[0], True, row[2]), (row[0], None, row[2]),
                      (row[0], "1", row[2]), (row[0], row[2], row[1]), (row[0], 1, list(row[2])), (row[0], 1, None), (row[0], 1, "ab"),
                      (row[0], 1, ((ONE, 0), (TWO,))), (row[0], 1, ((ONE, 0, 1),)), (row[0], 1, ((ONE, -1),)), (row[0], 1, ((ONE, True),)),
                      (row[0], 1, ([ONE, 0],)), (row[0], 1, (None,)), (row[0], 1, ((),)), (row[0], 1, ((ONE, None),)), (row[0], 1, ((ONE, "0"),))):
            for at in range(3):
                self.invalid("shape", -1, COUNT, 4, ("numbers", with_changed(ROWS, at, wrong)))

    def test_the_shape_comes_first(self):
        self.invalid("shape", -1, COUNT, 4, ("numbers", ((None, 0, ()), (None, 0, ((ONE, None),)))))

    def test_a_right_shape_with_any_moments(self):
        for thing in ANYTHING:
            self.bad("row", 0, ((thing, 0, ()),))
            self.bad("table", (0, 0), ((ZERO, 0, ((thing, 0),)),))


class RingTest(CheckerChecks):
    def test_rings(self):
        for charge in (0, 1, 2):
            self.told(False, COUNT, charge, ("ring", RING))
            self.told(False, LOOP, charge, ("ring", (((),) * charge, ())))
        self.told(False, TWICE, 5, ("ring", ring_run(TWICE)))
        self.told(False, LATE, 6, ("ring", ring_run(LATE)))

    def test_the_errors_of_lets_run(self):
        for thing in (None, (), [()], ((), None), 3, "ring"):
            self.invalid("shape", -1, COUNT, 2, ("ring", thing))
        self.invalid("step", (0, 1), COUNT, 2, ("ring", (((), 0), ())))
        self.invalid("step", (1, 0), COUNT, 99, ("ring", (((),), ((0,),), ())))
        self.invalid("fall", 0, NOTHING, 2, ("ring", ((), ())))
        self.invalid("fall", 1, COUNT, 2, ("ring", ((), ((),) * 7, ())))

    def test_what_is_no_ring(self):
        for made in (((),), (((), ()),), (((), ()), ()), (((),), ((),)), ((), (), ((),))):
            for charge in (0, 9):
                self.invalid("ring", -1, COUNT, charge, ("ring", made))

    def test_a_ring_that_is_not_wide_enough(self):
        for charge in (3, 4, 99, SIXTY):
            self.invalid("width", -1, COUNT, charge, ("ring", RING))
        self.invalid("width", -1, COUNT, 2, ("ring", ((), (((),)), ())))
        self.invalid("width", -1, LOOP, 2, ("ring", ((), ())))


class NumbersTest(CheckerChecks):
    def test_the_paper_of_count(self):
        self.same(ROWS, (
            (ZERO, 2, ((ZERO, 0), (ONE, 4), (TWO, 4), (((0, ()), 1, (0,)), 1), (((0, ()), 1, (1,)), 4), (((0, ()), 2, (1,)), 3),
                       (((0, ()), 2, (2,)), 4), (((0, ()), 3, (2,)), 4))),
            (ONE, 1, ((ONE, 0), (TWO, 4), (((0, ()), 1, (1,)), 1), (((0, ()), 2, (2,)), 3), (((0, ()), 3, (2,)), 4))),
            (TWO, 0, ((TWO, 0), (((0, ()), 3, (2,)), 1))),
        ))
        for rows in (ROWS, ((ZERO, 9, ROWS[0][2]), (ONE, 2, ROWS[1][2]), ROWS[2]), ROWS + ((THREE, 0, ((THREE, 0), (((0, ()), 3, (3,)), 1))),)):
            self.told(True, COUNT, 4, ("numbers", rows))
            self.same(list(on_faults(COUNT, 4, rows)), [])

    def test_greater_bounds_do_no_harm(self):
        table = ROWS[0][2]
        for bound in (4, 5, 99, SIXTY):
            self.told(True, COUNT, 4, ("numbers", with_table(ROWS, 0, with_changed(table, 1, (ONE, bound)))))
        more = ((((0, ()), 3, (0,)), 0), (((0, ()), 3, (1,)), 9))
        self.told(True, COUNT, 4, ("numbers", with_table(ROWS, 1, ROWS[1][2][:4] + more + ROWS[1][2][4:])))

    def test_rows(self):
        self.bad("row", 1, (ROWS[1], ROWS[0], ROWS[2]))
        self.bad("row", 2, (ROWS[0], ROWS[1], ROWS[1]))
        self.bad("row", 0, ((((0, ()), 4, (0,)), 2, ROWS[0][2]),) + ROWS[1:])
        self.bad("row", 0, ((((0, ()), False, (0,)), 2, ROWS[0][2]),) + ROWS[1:])
        self.bad("row", 1, (ROWS[0], (((0, ()), 0, (4,)), 1, ROWS[1][2]), ROWS[2]))

    def test_a_waking_need_only_be_a_moment(self):
        place = ((0, ()), 2, (1,))
        rows = ROWS + ((place, 5, ((ONE, 4), (TWO, 4)) + ROWS[0][2][4:]),)
        rows = with_table(rows, 3, ((ONE, 4), (TWO, 4), (((0, ()), 1, (1,)), 4), (place, 0)) + ROWS[0][2][6:])
        self.told(True, COUNT, 4, ("numbers", rows))

    def test_tables(self):
        table = ROWS[0][2]
        self.bad("table", (0, 1), with_table(ROWS, 0, (table[1], table[0]) + table[2:]))
        self.bad("table", (0, 3), with_table(ROWS, 0, table[:3] + table[2:]))
        self.bad("table", (1, 0), with_table(ROWS, 1, ((None, 0),) + ROWS[1][2]))
        self.bad("table", (2, 2), with_table(ROWS, 2, ROWS[2][2] + ((((0, ()), 3, (True,)), 0),)))

    def test_start_and_first(self):
        self.bad("start", 1, with_table(ROWS, 1, ROWS[1][2][1:]))
        self.bad("start", 0, with_table(ROWS, 0, ()))
        self.bad("first", -1, ROWS[1:])
        self.bad("first", -1, ())

    def test_steps(self):
        table = ROWS[0][2]
        self.bad("step", (0, 0), with_table(ROWS, 0, table[:3] + table[4:]))
        self.bad("step", (0, 3), with_table(ROWS, 0, with_changed(table, 5, (table[5][0], 2))))
        self.bad("step", (0, 0), with_table(ROWS, 0, with_changed(table, 3, (table[3][0], 0))))
        self.bad("step", (2, 0), with_table(ROWS, 2, ((TWO, 0), (ROWS[2][2][1][0], 0))))
        # At least the charge is enough, too, but not a number below it.
        self.bad("step", (0, 5), with_table(ROWS, 0, with_changed(table, 1, (ONE, 3))))

    def test_a_moment_that_is_missing_with_a_charge_of_0(self):
        ahead, behind = ((0, ()), 0, ()), ((0, ()), 1, ())
        program = ((), (("off", 9), ("end",)), ())
        self.told(True, program, 0, ("numbers", ((ahead, 0, ((ahead, 0), (behind, 0))),)))
        self.invalid("step", (0, 0), program, 0, ("numbers", ((ahead, 0, ((ahead, 0),)),)))

    def test_falls(self):
        self.bad("fall", (0, 2), ROWS[:2])
        self.bad("fall", (1, 1), (ROWS[0], (ONE, 0, ROWS[1][2]), ROWS[2]))
        self.bad("fall", (0, 1), ((ZERO, 1, ROWS[0][2]),) + ROWS[1:])
        self.bad("fall", (0, 1), ROWS[:1] + ROWS[2:])
        self.bad("fall", (0, 3), ROWS, 2)

    def test_two_faults(self):
        table = ROWS[1][2]
        for first, second in (
            (("row", 0), ((None, 2, ()),) + ROWS[1:]), (("table", (0, 0)), (((ZERO, 2, ((0, 0),)),) + ROWS[:1])),
            (("start", 0), ((ZERO, 2, ()),) + ROWS[:1]), (("start", 1), ((ZERO, 0, ROWS[0][2]), (ONE, 0, ()), ROWS[1])),
            (("row", 1), ((ZERO, 0, ((ZERO, 0),)), (ZERO, 0, ()))), (("table", (0, 1)), ((ONE, 0, ((ZERO, 0), (ZERO, 0))),)),
            (("first", -1), ((ONE, 0, ((ONE, 0),)),)), (("start", 0), ((ONE, 0, ((ZERO, 0),)),)),
            (("step", (0, 0)), ((ZERO, 0, ((ZERO, 9),)),)), (("fall", (0, 1)), ((ZERO, 1, ROWS[0][2]), (ONE, 1, table[:1]))),
            (("step", (1, 0)), ((ZERO, 2, ROWS[0][2]), (ONE, 1, table[:1]), (TWO, 0, ((TWO, 0),)))),
        ):
            self.bad(*first, second)

    def test_other_programs_and_charges(self):
        for charge in (5, 6, 99, SIXTY):
            self.told(True, COUNT, charge, ("numbers", on_paper(COUNT, charge)[1]))
        self.invalid("fall", (0, 0), LOOP, 9, ("numbers", ((((0, ()), 0, ()), 0, ((((0, ()), 0, ()), 9),)),)))
        self.told(True, COUNT, 3, ("numbers", on_paper(COUNT, 3)[1]))
        for program in (LATE, TWICE, LOOP, NOTHING):
            self.invalid("row", 0, program, 4, ("numbers", ROWS))

    def test_charges_that_are_no_numbers(self):
        for thing in ANYTHING:
            if repr(thing) not in ("0", "1", "7", repr(SIXTY)):
                for paper in (("ring", RING), None, ("numbers", ROWS)):
                    self.refused(NotUsable, {"word": "charge", "at": -1}, lets_on, COUNT, thing, paper)


class RandomTest(CheckerChecks):
    def test_what_the_package_tells_is_accepted(self):
        for search in small_searches(71, 200):
            for charge in (0, 2, 6, 9, 30):
                self.told(falls_end(search.program, charge), search.program, charge, on_paper(search.program, charge))

    def test_what_is_accepted_is_true(self):
        papers = []
        for search in small_searches(72, 150):
            for charge in (1, 6, 20):
                papers.append((charge, on_paper(search.program, charge)))
            for other, paper in papers[-9:]:
                for charge in (other, other + 1, max(0, other - 1)):
                    try:
                        self.assertIs(lets_on(search.program, charge, paper), not search.has_ring(charge))
                    except InvalidPaper:
                        pass

    def test_spoilt_papers(self):
        pick = random.Random(73)
        words = {}
        for search in small_searches(74, 350):
            width = ring_width(search.program)
            charge = 9 if width in (None, "endless") else width + pick.randrange(1, 4)
            word, rows = on_paper(search.program, charge)
            for _ in range(12 if word == "numbers" else 0):
                changed = spoilt(pick, rows, list(search.steps))
                fault = next(on_faults(search.program, charge, changed), None) if self.has_shape(changed) else ("shape", -1)
                words[fault and fault[0]] = words.get(fault and fault[0], 0) + 1
                if fault is None:
                    self.told(True, search.program, charge, ("numbers", changed))
                else:
                    self.invalid(*fault, search.program, charge, ("numbers", changed))
        self.assertEqual(set(words), {None, "shape", "row", "table", "start", "first", "step", "fall"})
        self.assertGreater(min(words.values()), 20)

    def has_shape(self, rows):
        pairs = [pair for row in rows if len(row) == 3 and isinstance(row[2], tuple) for pair in row[2]]
        return all(len(row) == 3 and isinstance(row[1], int) and isinstance(row[2], tuple) for row in rows) and all(
            isinstance(pair, tuple) and len(pair) == 2 and isinstance(pair[1], int) for pair in pairs)
