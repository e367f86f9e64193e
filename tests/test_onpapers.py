"""[37], [38]: papers of falls."""

from enoughcharge.errors import NotUsable
from enoughcharge.kinds import is_number
from enoughcharge.onpapers import on_paper
from enoughcharge.rings import falls_end, least_charge, ring_width
from enoughcharge.runs import is_ring, lets_run, wakings_of, width_of
from tests.papers import on_faults
from tests.samples import ANYTHING, COUNT, LATE, LOOP, MIXED, NOTHING, SIXTY, TWICE, Checks
from tests.search import small_searches


class PaperChecks(Checks):
    def told(self, program, charge):
        """The first word of the on paper, behind a check of all that the document says of it."""
        paper = on_paper(program, charge)
        self.same(on_paper(charge=charge, program=program), paper)
        self.assertIs(paper.__class__, tuple)
        word, thing = paper
        if word == "ring":
            lets_run(program, thing)
            self.assertIs(is_ring(program, thing), True)
            self.same(thing[-1], ())
            self.assertIn(wakings_of(program, thing)[-1], wakings_of(program, thing)[:-1])
            self.assertGreaterEqual(width_of(program, thing), charge)
        else:
            self.same(word, "numbers")
            self.has_kinds(thing)
            self.same(list(on_faults(program, charge, thing)), [])
        return word

    def has_kinds(self, rows):
        self.assertIs(rows.__class__, tuple)
        for row in rows:
            self.assertIs(row.__class__, tuple)
            self.assertIs(row[2].__class__, tuple)
            self.assertEqual(len(row), 3)
            self.assertTrue(is_number(row[1]))
            for entry in row[2]:
                self.assertIs(entry.__class__, tuple)
                self.assertEqual(len(entry), 2)
                self.assertTrue(is_number(entry[1]))


class PaperTest(PaperChecks):
    def test_below_on_and_above_the_ring_width(self):
        for program, width in ((COUNT, 2), (TWICE, 5), (LATE, 6)):
            for charge in (0, 1, width - 1, width, width + 1, width + 2, 99, 1000, SIXTY):
                self.same(self.told(program, charge), "ring" if charge <= width else "numbers")

    def test_endless_rings(self):
        for charge in (0, 1, 2, 3, 50, 99, 1001):
            self.same(self.told(LOOP, charge), "ring")
            self.same(self.told(((), (("jump", 1, 9), ("jump", 0, 8)), ()), charge), "ring")

    def test_without_a_ring(self):
        for charge in (0, 1, 99, SIXTY):
            self.same(self.told(NOTHING, charge), "numbers")
            self.same(self.told(((), (("off", 3), ("end",)), ()), charge), "numbers")
        self.same(on_paper(NOTHING, 0), ("numbers", ((((0, ()), 0, ()), 0, ((((0, ()), 0, ()), 0),)),)))

    def test_rounds_of_steps_at_a_charge_at_which_falls_end(self):
        program = ((("k", "kept", 1, 0),), (("unless", ("equal", "k", 0), 3, 1), ("set", "k", 1, 1), ("jump", 2, 1), ("end",)), ())
        for charge in (0, 1, 2, 3, 9, 99):
            self.same(self.told(program, charge), "ring" if charge <= 1 else "numbers")

    def test_a_least_charge_above_ninety_nine(self):
        program = ((), tuple(("set", "q", 1, 9) for _ in range(15)) + (("end",),), ())
        program = ((("q", "quick", 1, 0),),) + program[1:]
        least = least_charge(program)
        self.same(least, 135)
        self.same([self.told(program, charge) for charge in (least - 1, least, least + 1)], ["ring", "numbers", "numbers"])

    def test_charges_that_are_no_numbers(self):
        for thing in ANYTHING:
            if repr(thing) not in ("0", "1", "7", repr(SIXTY)):
                self.refused(NotUsable, {"word": "charge", "at": -1}, on_paper, COUNT, thing)
                self.refused(NotUsable, {"word": "charge", "at": -1}, on_paper, charge=thing, program=NOTHING)

    def test_random_programs(self):
        words = []
        for search in small_searches(61, 250):
            width = ring_width(search.program)
            near = (width - 1, width, width + 1, width + 9) if width not in (None, "endless", 0) else (5, 30)
            for charge in (0, 3, 8) + near:
                words.append(self.told(search.program, charge))
                self.same(words[-1], "numbers" if falls_end(search.program, charge) else "ring")
                self.same(words[-1], "ring" if search.has_ring(charge) else "numbers")
        self.assertGreater(min(words.count("ring"), words.count("numbers")), 300)
        self.told(MIXED, 3)
