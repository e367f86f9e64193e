"""[9] (E2), (E5), [39], [40]: the most falls that can come with a charge."""

from enoughcharge.errors import NeverEnough, NotUsable
from enoughcharge.numbering import falling_run, most_falls, numbering
from enoughcharge.programchanges import renamed
from enoughcharge.rings import falls_end, least_charge, ring_width
from enoughcharge.runs import is_ring, is_run, lets_run, wakings_of, width_of
from tests.samples import ANYTHING, COUNT, LATE, LOOP, NOTHING, SIXTY, TWICE, Checks
from tests.search import small_searches

ZERO, ONE, TWO = [((0, ()), 0, (value,)) for value in range(3)]
# With less charge more falls come: each step counts, and n is never put back.
STEPS = (
    (("n", "kept", 3, 0),),
    (("unless", ("equal", "n", 0), 3, 1), ("set", "n", 1, 1), ("mark", 9), ("unless", ("less", "n", 3), 6, 2), ("set", "n", ("plus", "n", 1), 2),
     ("jump", 3, 7), ("end",)),
    (),
)

# The outside answers how far n counts down; each fall that can come with 11 leaves it there.
DOWN = (
    (("n", "kept", 3, 0),),
    (("unless", ("equal", "n", 0), 4, 1), ("ask", "n", 1), ("unless", ("less", 0, "n"), 7, 1), ("mark", 9),
     ("unless", ("less", 1, "n"), 7, 1), ("set", "n", ("minus", "n", 1), 2), ("jump", 4, 9), ("end",)),
    (),
)


class NumberChecks(Checks):
    def told(self, program, charge, most):
        """That most_falls is this number, or None, and that the other functions agree with it."""
        self.same(most_falls(program, charge), most)
        self.same(most_falls(charge=charge, program=program), most)
        made = falling_run(program, charge)
        self.same(falling_run(charge=charge, program=program), made)
        if most is None:
            self.same(made, None)
            self.never_enough(program, charge)
            return
        self.same(lets_run(program, made), most)
        self.assertTrue(width_of(program, made) is None or width_of(program, made) >= charge)
        rows = numbering(program, charge)
        self.same(numbering(charge=charge, program=program), rows)
        self.same(list(rows), sorted(rows))
        numbers = dict(rows)
        self.same([numbers[waking] for waking in wakings_of(program, made)], list(range(most, -1, -1)))

    def never_enough(self, program, charge):
        with self.assertRaises(NeverEnough) as caught:
            numbering(program, charge)
        self.assertEqual(list(vars(caught.exception)), ["run"])
        run = caught.exception.run
        self.assertTrue(is_run(program, run))
        self.assertIs(is_ring(program, run), True)
        self.assertGreaterEqual(width_of(program, run), charge)


class NumberingTest(NumberChecks):
    def test_count(self):
        for charge, most in ((0, None), (1, None), (2, None), (3, 2), (4, 2), (5, 1), (6, 1), (7, 1), (8, 1), (9, 0), (99, 0), (SIXTY, 0)):
            self.told(COUNT, charge, most)
        for charge in (3, 4):
            self.same(numbering(COUNT, charge), ((ZERO, 2), (ONE, 1), (TWO, 0)))
        # With 7 and more n cannot be 1 at a fall: it comes at 8 ahead of the last step alone.
        self.same([numbering(COUNT, charge) for charge in (5, 6)], [((ZERO, 1), (ONE, 0), (TWO, 0))] * 2)
        self.same([numbering(COUNT, charge) for charge in (7, 8)], [((ZERO, 1), (TWO, 0))] * 2)
        self.same(numbering(COUNT, 9), ((ZERO, 0),))

    def test_twice_and_late(self):
        for charge in (0, 5):
            self.told(TWICE, charge, None)
        for charge in (6, 7, 99):
            self.told(TWICE, charge, 0)
            self.same(numbering(TWICE, charge), ((((0, ()), 0, (0, 0)), 0),))
        self.told(LATE, 6, None)
        self.told(LATE, 7, 0)

    def test_rings_that_are_endless(self):
        for charge in (0, 1, 2, 99):
            self.told(LOOP, charge, None)

    def test_without_falls(self):
        for charge in (0, 9, SIXTY):
            self.told(NOTHING, charge, 0)
            self.same(falling_run(NOTHING, charge), ((),))
            self.same(numbering(NOTHING, charge), ((((0, ()), 0, ()), 0),))

    def test_between_critical_charges(self):
        self.same(ring_width(STEPS), 4)
        for charge, most in enumerate([None] * 5 + [3] * 8 + [2] * 2 + [1] * 20 + [0] * 5):
            self.told(STEPS, charge, most)

    def test_the_longest_way_of_falls(self):
        wakings = [((0, ()), 0, (value,)) for value in (0, 3, 2, 1)]
        self.told(DOWN, 11, 3)
        self.same(wakings_of(DOWN, falling_run(DOWN, 11)), tuple(wakings))
        numbers = dict(numbering(DOWN, 11))
        self.same([numbers[waking] for waking in wakings], [3, 2, 1, 0])
        for charge in range(0, 40):
            self.told(DOWN, charge, most_falls(DOWN, charge))

    def test_wakings_that_only_other_charges_reach_have_no_number(self):
        self.assertNotIn(ONE, dict(numbering(COUNT, 7)))
        self.assertIn(ONE, dict(numbering(COUNT, 6)))

    def test_charges_that_are_no_numbers(self):
        for thing in ANYTHING:
            if repr(thing) not in ("0", "1", "7", repr(SIXTY)):
                for function in (numbering, most_falls, falling_run):
                    for program in (COUNT, LOOP, NOTHING):
                        self.refused(NotUsable, {"word": "charge", "at": -1}, function, program, thing)
                    self.refused(NotUsable, {"word": "charge", "at": -1}, function, charge=thing, program=LOOP)


class AgainstSearchTest(NumberChecks):
    def test_random_programs(self):
        met = {}
        for search in small_searches(81, 300):
            program = search.program
            width = ring_width(program)
            near = [] if width in (None, "endless") else [width, width + 1, width + 2, width + 10]
            for charge in [0, 3, 7, 12] + near:
                numbers = None if search.has_ring(charge) else search.most_falls(charge)
                most = None if numbers is None else numbers[search.first]
                self.told(program, charge, most)
                if numbers is not None:
                    self.same(numbering(program, charge), tuple(sorted(numbers.items())))
                met[most] = met.get(most, 0) + 1
        self.assertGreater(min(met[None], met[0], met[1], sum(many for most, many in met.items() if most and most > 1) * 5), 40)

    def test_consequences(self):
        for search in small_searches(82, 200):
            program = search.program
            least = least_charge(program)
            numbers = []
            for charge in range(20):
                most = most_falls(program, charge)
                self.assertIs(most is not None, least is not None and charge >= least)
                self.assertIs(falls_end(program, charge), most is not None)
                if most is not None:
                    numbers.append(most)
                    self.assertLess(most, len(numbering(program, charge)))
            self.assertEqual(numbers, sorted(numbers, reverse=True))

    def test_other_names_in_the_same_order(self):
        for charge in (2, 3, 5, 9):
            other = renamed(COUNT, "n", "z")
            self.same(most_falls(other, charge), most_falls(COUNT, charge))
            if charge > 2:
                self.same(numbering(other, charge), numbering(COUNT, charge))
