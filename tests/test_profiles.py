"""[9] (E2) to (E4), [51]: profiles, and the charges at which it changes what can come."""

from enoughcharge.answers import answer_width, answers_at, right_answers
from enoughcharge.profiles import critical_charges, profile
from enoughcharge.programchanges import with_cell, with_costs, with_instruction, with_kind, with_marks, with_told
from enoughcharge.rings import falls_end, ring_width
from tests.samples import COUNT, LATE, LOOP, MIXED, NOTHING, TWICE, Checks
from tests.search import small_searches, with_only
from tests.test_answers import ASKED, NARROW, TURN
from tests.test_loops import HIDDEN

# A wide fall alone leads to the wrong answer; all other falls are narrow.
SPOILT = (
    (("q", "quick", 1, 0), ("x", "kept", 1, 0), ("y", "kept", 1, 0)),
    (("unless", ("equal", "x", 0), 4, 1), ("set", "x", 1, 1), ("set", "q", 1, 8), ("end",), ("set", "y", 1, 1), ("end",)),
    ("y",),
)
# No run leads to a cost that is due: there is no ring.
STILL = ((("x", "kept", 1, 0),), (("off", 3), ("off", 2), ("end",)), ("x",))


class ProfileChecks(Checks):
    def has_profile(self, program, ring, rows, charges):
        self.same(profile(program), (ring, rows))
        self.same(profile(program=program), (ring, rows))
        self.same(critical_charges(program), charges)
        self.same(critical_charges(program=program), charges)


class ProfileTest(ProfileChecks):
    def test_right_and_wrong_answers(self):
        self.has_profile(COUNT, 2, (((2,), True, "endless"),), (3,))
        self.has_profile(TWICE, 5, (((0,), False, 5), ((1,), True, "endless"), ((2,), False, 5), ((3,), False, 5)), (6,))
        self.has_profile(LATE, 6, (((1,), True, "endless"),), (7,))
        self.has_profile(NARROW, 4, (((0,), False, 4), ((1,), True, "endless"), ((2,), False, 4), ((3,), False, 4)), (5,))
        self.has_profile(SPOILT, 1, (((0,), True, "endless"), ((1,), False, 9)), (2, 10))

    def test_without_a_ring(self):
        self.has_profile(NOTHING, None, (((), True, "endless"),), ())
        self.has_profile(STILL, None, (((0,), True, "endless"),), ())
        self.has_profile(with_marks(STILL, (1,)), 1, (((0,), True, "endless"),), (2,))

    def test_endless_widths(self):
        self.has_profile(LOOP, "endless", (), ())
        self.has_profile(TURN, "endless", tuple(((value,), value == 1, "endless") for value in range(4)), ())
        # Behind one endless fall x is 2 with each charge, other answers have the width 4.
        program = (TURN[0], (
            ("set", "x", ("plus", "x", 1), 1), ("unless", ("equal", "x", 1), 4, 1), ("ask", "q", 2), ("unless", ("equal", "q", 1), 2, 1),
            ("set", "q", 1, 3), ("end",)), ("x",))
        self.has_profile(program, 4, (((0,), False, 4), ((1,), True, "endless"), ((2,), False, "endless"), ((3,), False, 4)), (5,))

    def test_without_an_answer(self):
        for program, ring, charges in ((LOOP, "endless", ()), (((), (("off", 3), ("jump", 0, 1)), ()), "endless", ()),
                                       (with_instruction(TWICE, 2, ("jump", 2, 1)), "endless", ())):
            self.has_profile(program, ring, (), charges)

    def test_without_told_cells(self):
        self.has_profile(with_told(TWICE, ()), 5, (((), True, "endless"),), (6,))
        self.has_profile(with_told(COUNT, ()), 2, (((), True, "endless"),), (3,))

    def test_answers_that_only_come_behind_falls(self):
        told = profile(HIDDEN)
        self.assertEqual([right for _, right, _ in told[1]].count(True), len(right_answers(HIDDEN)))
        self.assertEqual([right for _, right, _ in told[1]].count(False), len(answers_at(HIDDEN, 0)) - len(right_answers(HIDDEN)))
        program = (TURN[0], (("set", "x", ("plus", "x", 1), 1), ("set", "q", 1, 5), ("unless", ("equal", "x", 1), 4, 1), ("jump", 3, 2), ("end",)), ("x",))
        self.same(profile(program), (6, (((0,), False, 6), ((2,), False, "endless"), ((3,), False, 6))))

    def test_several_told_cells(self):
        _, rows = profile(ASKED)
        self.same([answer for answer, _, _ in rows], [(a, b) for a in range(3) for b in range(4)])
        self.assertTrue(all(row[1:] == (True, "endless") for row in rows))

    def test_as_rings_and_answers_tell(self):
        for program in (COUNT, TWICE, LATE, LOOP, NOTHING, MIXED, TURN, NARROW, ASKED, HIDDEN, STILL, SPOILT):
            ring, rows = profile(program)
            self.same(ring, ring_width(program))
            self.same(tuple(answer for answer, _, _ in rows), answers_at(program, 0))
            self.same(tuple(answer for answer, right, _ in rows if right), right_answers(program))
            self.same([width for _, _, width in rows], [answer_width(program, answer) for answer, _, _ in rows])


class AgainstSearchTest(ProfileChecks):
    def test_random_programs(self):
        met = {}
        for search in small_searches(151, 180, 30):
            ring, rows = search.profile()
            charges = {width + 1 for width in [ring] + [row[2] for row in rows] if isinstance(width, int)}
            self.has_profile(search.program, ring, rows, tuple(sorted(charges)))
            for _, right, width in rows:
                kind = (right, "number" if isinstance(width, int) else width)
                met[kind] = met.get(kind, 0) + 1
            met[len(charges)] = met.get(len(charges), 0) + 1
        self.assertGreater(min(met[True, "endless"], met[False, "number"], met[1], met[0]), 20)
        self.assertGreater(met[2], 2)

    def test_what_can_come_changes_at_critical_charges_alone(self):
        for search in small_searches(152, 150):
            charges = critical_charges(search.program)
            if charges:
                self.assertEqual([charges.__class__, sorted(set(charges))], [tuple, list(charges)])
            before = None
            for charge in range(max(charges, default=0) + 3):
                now = (search.answers_at(charge), search.has_ring(charge))
                self.assertIs(before is not None and now != before, charge in charges)
                self.same(now, (answers_at(search.program, charge), not falls_end(search.program, charge)))
                before = now

    def test_right_answers_whichever_marks_are_on_and_cells_are_saved(self):
        for search in small_searches(153, 120):
            program = search.program
            right = [answer for answer, is_right, _ in profile(program)[1] if is_right]
            changed = [with_only(program, ()), with_costs(program, 2)]
            changed += [with_kind(program, name, "saved" if kind == "kept" else "kept") for name, kind, _, _ in program[0] if kind != "quick"]
            for other in changed:
                self.same([answer for answer, is_right, _ in profile(other)[1] if is_right], right)

    def test_a_cell_more_that_nothing_names(self):
        for search in small_searches(154, 100):
            for kind in ("quick", "saved", "kept"):
                self.same(profile(with_cell(search.program, ("more", kind, 2, 1))), profile(search.program))
