"""[7], [9] (E1) and (E2), [35], [36]: the widest ring."""

from enoughcharge.errors import NotUsable
from enoughcharge.moments import first_moment
from enoughcharge.programchanges import with_costs, with_marks, with_told
from enoughcharge.pumped import lets_pumped, pumped_out
from enoughcharge.rings import falls_end, least_charge, ring_run, ring_width
from enoughcharge.runs import is_ring, lets_run, wakings_of, width_of
from tests.samples import ANYTHING, COUNT, LATE, LOOP, MIXED, NOTHING, SIXTY, TWICE, Checks
from tests.search import small_searches

# Places where no cost is due, and ends at which no fall comes.
OFFS = ((("k", "kept", 1, 0),), (("off", 9), ("off", 1), ("end",)), ("k",))
# The outside may answer for ever, but each answer is kept.
ASKED = (
    (("k", "kept", 1, 0), ("q", "quick", 3, 0)),
    (("ask", "q", 2), ("unless", ("equal", "q", 3), 0, 1), ("set", "k", 1, 4), ("mark", 3), ("end",)),
    ("k",),
)
# What is saved comes back, so that the same waking comes behind the mark, but what is kept gets on.
SAVED = (
    (("n", "kept", 2, 0), ("s", "saved", 3, 0)),
    (("set", "s", 2, 1), ("mark", 1), ("set", "s", ("plus", "s", 1), 3), ("set", "n", ("plus", "n", 1), 2),
     ("unless", ("equal", "n", 0), 2, 1), ("end",)),
    ("n",),
)
# A round that can be left to fall, but only by a fall that does not come twice.
ONCE = ((("k", "kept", 1, 0),), (("unless", ("equal", "k", 0), 4, 1), ("set", "k", 1, 1), ("set", "k", 1, 1), ("jump", 2, 1), ("end",)), ())


class RingChecks(Checks):
    def shown(self, program):
        """The ring width, behind a check that ring_run shows it."""
        width = ring_width(program)
        self.same(ring_width(program=program), width)
        made = ring_run(program)
        self.same(ring_run(program=program), made)
        if width is None:
            self.same(made, None)
        elif width == "endless":
            self.same(made[-1], ())
            for many in (0, 1, 2, 7):
                self.ring(program, pumped_out(program, made, many), many)
            self.assertEqual(lets_pumped(program, made), lets_run(program, pumped_out(program, made, 1)))
        else:
            self.ring(program, made, width)
            self.same(width_of(program, made), width)
        return width

    def ring(self, program, made, width):
        wakings = wakings_of(program, made)
        self.assertIn(wakings[-1], wakings[:-1])
        self.same(made[-1], ())
        self.assertIs(is_ring(program, made), True)
        self.assertGreaterEqual(width_of(program, made), width)

    def told(self, program, width):
        self.same(self.shown(program), width)
        least = {None: 0, "endless": None}[width] if width in (None, "endless") else width + 1
        self.same(least_charge(program), least)
        self.same(least_charge(program=program), least)
        for charge in (0, 1, 7, 99, SIXTY) + ((least - 1, least, least + 1) if least else ()):
            ends = least is not None and charge >= least
            self.same(falls_end(program, charge), ends)
            self.same(falls_end(charge=charge, program=program), ends)


class RingTest(RingChecks):
    def test_samples(self):
        for program, width in ((COUNT, 2), (TWICE, 5), (LATE, 6), (LOOP, "endless"), (NOTHING, None), (OFFS, None), (with_marks(LATE, ()), 5)):
            self.told(program, width)

    def test_rings_of_one_waking(self):
        for cost in (1, 2, 9, SIXTY):
            self.told(((), (("mark", cost), ("end",)), ()), cost - 1)
            self.told(((), (("off", 9), ("mark", cost), ("end",)), ()), cost - 1)
        self.told(((), (("mark", 2), ("mark", 7), ("mark", 4), ("end",)), ()), 6)
        self.told(((), (("mark", 2), ("off", 7), ("mark", 4), ("end",)), ()), 3)

    def test_a_wide_ring_behind_a_narrow_fall_only(self):
        late = (
            (("k", "kept", 1, 0), ("q", "quick", 1, 0)),
            (("unless", ("equal", "k", 0), 5, 1), ("set", "k", 1, 2), ("set", "k", 0, 1), ("set", "q", 1, 4), ("jump", 8, 1),
             ("set", "q", 1, 9), ("set", "q", 1, 9), ("jump", 8, 9), ("end",)),
            ("k",),
        )
        # With k set to 1 only a fall of width 3 comes; behind it rings are as wide as 27. The falls with k 0 have width 8.
        self.told(late, 8)
        self.same([ring_width(((late[0][0][:3] + (1,), late[0][1]), late[1], ("k",)))], [27])
        nearer = (late[0], late[1][:3] + (("end",),) + late[1][4:], ("k",))
        self.told(nearer, 3)

    def test_rounds_of_steps(self):
        self.told(MIXED, self.shown(MIXED))
        self.told(ASKED, "endless")
        self.told(((), (("jump", 1, 9), ("jump", 0, 1)), ()), "endless")
        self.told(ONCE, 1)
        unsettled = (ONCE[0], ONCE[1][:2] + (("jump", 2, 5), ("jump", 2, 1), ("end",)), ())
        self.told(unsettled, 1)
        self.told((ONCE[0], ONCE[1][:1] + (("jump", 1, 5), ("end",), ("jump", 0, 1), ("end",)), ()), "endless")

    def test_each_fall_of_an_endless_ring_is_endless(self):
        # The round comes twice before k is as at first, each time with another kept value.
        program = (
            (("k", "kept", 1, 0),),
            (("unless", ("equal", "k", 0), 4, 1), ("ask", "k", 2), ("unless", ("equal", "k", 0), 7, 1), ("jump", 1, 3),
             ("ask", "k", 2), ("unless", ("equal", "k", 1), 7, 1), ("jump", 4, 3), ("end",)),
            (),
        )
        self.told(program, "endless")
        # Here k cannot become 0 again, so a wide ring at 1 is reached by a fall in the round alone.
        cells = (("k", "kept", 1, 0),)
        code = (("unless", ("equal", "k", 0), 4, 1), ("ask", "k", 2), ("unless", ("equal", "k", 0), 3, 1), ("jump", 1, 3), ("end",))
        self.same(ring_width((cells, code, ())), "endless")

    def test_saved_and_kept_cells(self):
        self.told(SAVED, self.shown(SAVED))
        kept = (SAVED[0][:1] + (("s", "kept", 3, 0),), SAVED[1], SAVED[2])
        quick = (SAVED[0][:1] + (("s", "quick", 3, 0),), SAVED[1], SAVED[2])
        for program in (SAVED, kept, quick):
            for marks in ((), (1,)):
                self.told(with_marks(program, marks), self.shown(with_marks(program, marks)))

    def test_a_great_least_charge(self):
        program = (
            (("a", "quick", 3, 0), ("b", "quick", 3, 0)),
            (("set", "a", ("plus", "a", 1), 9), ("unless", ("equal", "a", 0), 0, 9), ("set", "b", ("plus", "b", 1), 9),
             ("unless", ("equal", "b", 0), 0, 9), ("end",)),
            (),
        )
        # All cells are quick: each fall leads back, the last one ahead of the 40th step.
        self.told(program, 40 * 9 - 1)
        self.same(falls_end(program, least_charge(program)), True)
        self.told(with_costs(program, SIXTY), 40 * (9 + SIXTY) - 1)

    def test_a_ring_that_does_not_hold_the_first_moment(self):
        program = ((("k", "kept", 1, 0),), (("set", "k", 1, 9), ("set", "k", 1, 1), ("end",)), ("k",))
        self.told(program, 9)
        self.same(wakings_of(program, ring_run(program))[-1], ((0, ()), 0, (1,)))

    def test_consequences(self):
        for search in small_searches(51, 200):
            program = search.program
            width = ring_width(program)
            self.assertIs(width is None, not any(search.dues.values()))
            dearer = ring_width(with_costs(program, 1))
            self.assertTrue(dearer == width or dearer == "endless" or (width != "endless" and dearer >= width))
            self.same(ring_width(with_told(program, ())), width)

    def test_charges_that_are_no_numbers(self):
        for thing in ANYTHING:
            if repr(thing) not in ("0", "1", "7", repr(SIXTY)):
                self.refused(NotUsable, {"word": "charge", "at": -1}, falls_end, COUNT, thing)
                self.refused(NotUsable, {"word": "charge", "at": -1}, falls_end, charge=thing, program=NOTHING)


class AgainstSearchTest(RingChecks):
    def test_random_programs(self):
        met = {"endless": 0, None: 0}
        for search in small_searches(52, 500):
            program = search.program
            width = self.shown(program)
            met[width] = met.get(width, 0) + 1
            if width is None:
                self.assertFalse(search.has_ring(0))
            elif width == "endless":
                self.assertTrue(search.has_ring(search.cap))
            else:
                self.assertTrue(search.has_ring(width))
                self.assertFalse(search.has_ring(width + 1))
            for charge in (0, 4, 9, 15):
                self.same(falls_end(program, charge), not search.has_ring(charge))
        self.assertGreater(min(met["endless"], met[None], len(met)), 15)

    def test_the_first_moment_is_a_waking(self):
        for search in small_searches(53, 100):
            made = ring_run(search.program)
            if made is not None and isinstance(ring_width(search.program), int):
                self.same(wakings_of(search.program, made)[0], first_moment(search.program))
