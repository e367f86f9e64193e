"""[8], [9] (E6), [54], [55], [57]: the sets of marks that do, and papers of all of them."""

import random

from enoughcharge.errors import NotUsable
from enoughcharge.markings import doing_sets, least_sets, marks_paper
from enoughcharge.onchecker import lets_on
from enoughcharge.profileclasses import Profile
from enoughcharge.programchanges import with_marks
from enoughcharge.programparts import marks_of
from enoughcharge.rightchecker import lets_right
from tests.samples import ANYTHING, COUNT, LATE, LOOP, NOTHING, SIXTY, TWICE, Checks
from tests.search import Search, all_sets, small_searches, with_only
from tests.test_answers import TURN

# A mark behind the count, and one behind the long step, which is too dear for it.
SAVED = (TWICE[0], (("set", "x", ("plus", "x", 1), 1), ("mark", 2), ("set", "q", 1, 4), ("off", 9), ("end",)), ("x",))
# Two marks of the same use, one of no use at all, and one more that is off.
FOUR = (
    (("q", "quick", 1, 0), ("s", "saved", 1, 0)),
    (("set", "s", 1, 6), ("mark", 1), ("off", 1), ("set", "q", 1, 5), ("mark", 4), ("jump", 6, 1), ("off", 2), ("end",)),
    ("s",),
)
CHARGES = (0, 1, 2, 3, 4, 5, 6, 7, 8, 9, 10, 11, 12, 13, 14, 20, 99)


def marked_searches(seed, many, most=35):
    """Searches of random programs with one to four marks, on and off."""
    left = many
    for search in small_searches(seed, many * 20, most):
        if left and 0 < len(marks_of(search.program)) < 5:
            left -= 1
            yield search
    assert left == 0


def searched_sets(program, charge):
    """The sets of marks that do with the charge, as a search tells."""
    marks = [at for at, line in enumerate(program[1]) if line[0] in ("mark", "off")]
    return tuple(places for places in all_sets(marks) if Search(with_only(program, places)).does(charge))


class SetChecks(Checks):
    def does(self, program, charge, sets, least=None):
        self.same(doing_sets(program, charge), sets)
        self.same(doing_sets(charge=charge, program=program), sets)
        least = sets if least is None else least
        self.same(least_sets(program, charge), least)
        self.same(least_sets(charge=charge, program=program), least)


class DoingSetsTest(SetChecks):
    def test_late(self):
        # With its mark on it needs more: a ring ends with the mark that is due.
        for charge in (0, 5):
            self.does(LATE, charge, ())
        self.does(LATE, 6, ((),))
        for charge in (7, 99, SIXTY):
            self.does(LATE, charge, ((), (1,)), ((),))

    def test_without_marks(self):
        for program, least in ((COUNT, 3), (TWICE, 6), (NOTHING, 0)):
            for charge in (0, least, least + 1, SIXTY):
                self.does(program, charge, ((),) if charge >= least else ())
            if least:
                self.does(program, least - 1, ())
        for charge in (0, 99):
            self.does(LOOP, charge, ())
            self.does(TURN, charge, ())

    def test_a_mark_that_is_needed(self):
        for charge in (0, 2, 3):
            self.does(SAVED, charge, ())
        self.does(SAVED, 4, ((1,),))
        for charge in (5, 9, 12):
            self.does(SAVED, charge, ((), (1,)), ((),))
        for charge in (13, 14):
            self.does(SAVED, charge, ((), (1,), (1, 3)) if charge < 14 else ((), (1,), (1, 3), (3,)), ((),))

    def test_four_marks(self):
        met = set()
        for charge in CHARGES:
            sets = searched_sets(FOUR, charge)
            least = tuple(one for one in sets if not any(set(other) < set(one) for other in sets))
            self.does(FOUR, charge, sets, least)
            met.add((len(sets), len(least)))
        self.assertIn((16, 1), met)
        self.assertTrue(any(least > 1 for _, least in met))
        self.same(doing_sets(FOUR, 99), (
            (), (1,), (1, 2), (1, 2, 4), (1, 2, 4, 6), (1, 2, 6), (1, 4), (1, 4, 6), (1, 6), (2,), (2, 4), (2, 4, 6), (2, 6), (4,), (4, 6), (6,)))

    def test_whichever_marks_are_on(self):
        for program in (LATE, SAVED, FOUR):
            for places in all_sets(marks_of(program)):
                for charge in (4, 6, 7, 12, 13):
                    self.does(with_marks(program, places), charge, doing_sets(program, charge), least_sets(program, charge))

    def test_charges_that_are_no_numbers(self):
        for thing in ANYTHING:
            if repr(thing) not in ("0", "1", "7", repr(SIXTY)):
                for function in (doing_sets, least_sets, marks_paper):
                    for program in (LATE, COUNT):
                        self.refused(NotUsable, {"word": "charge", "at": -1}, function, program, thing)
                    self.refused(NotUsable, {"word": "charge", "at": -1}, function, charge=thing, program=FOUR)


class PaperTest(SetChecks):
    def has_paper(self, program, charge):
        paper = marks_paper(program, charge)
        self.same(marks_paper(charge=charge, program=program), paper)
        self.assertIs(paper.__class__, tuple)
        self.same([row[0] for row in paper], all_sets(marks_of(program)))
        doing = []
        for row in paper:
            self.assertEqual([row.__class__, len(row)], [tuple, 3])
            places, on, right = row
            other = with_only(program, places)
            told = [lets_on(other, charge, on), lets_right(other, charge, right)]
            if all(told):
                doing.append(places)
        self.same(doing_sets(program, charge), tuple(doing))

    def test_papers(self):
        for program in (LATE, SAVED, FOUR, COUNT, TWICE, NOTHING, LOOP, TURN):
            for charge in (0, 3, 4, 6, 7, 12, 13, 40):
                self.has_paper(program, charge)
        self.same(marks_paper(NOTHING, 4), (
            ((), ("numbers", ((((0, ()), 0, ()), 0, ((((0, ()), 0, ()), 0),)),)), ("right", ((((0, ()), 0, ()), ((((0, ()), 0, ()), 0),)),), (((), ()),))),))

    def test_random_programs(self):
        for search in marked_searches(171, 60):
            for charge in (0, 5, 12):
                self.has_paper(search.program, charge)


class AgainstSearchTest(SetChecks):
    def test_random_programs(self):
        pick = random.Random(172)
        met = {}
        for search in marked_searches(173, 120):
            program = search.program
            leasts = [Profile(with_only(program, places)).least for places in all_sets(marks_of(program))]
            numbers = sorted({least for least in leasts if least is not None})
            for charge in {0, *numbers[:2], *numbers[-1:], *[number - 1 for number in numbers[:1] if number], pick.randrange(12)}:
                sets = searched_sets(program, charge)
                least = tuple(one for one in sets if not any(set(other) < set(one) for other in sets))
                self.does(program, charge, sets, least)
                met[len(marks_of(program))] = met.get(len(marks_of(program)), 0) + 1
                every = 1 << len(marks_of(program))
                kind = "none" if not sets else "all" if len(sets) == every else "some"
                met[kind] = met.get(kind, 0) + 1
                if any(set(one) < set(other) and other not in sets for one in sets for other in all_sets(marks_of(program))):
                    met["worse"] = met.get("worse", 0) + 1
        self.assertGreater(min(met["none"], met["all"], met["some"], met["worse"]), 15)
        self.assertGreater(min(met[1], met[2]), 30)

    def test_consequences(self):
        for search in marked_searches(174, 80):
            program = search.program
            before = ()
            for charge in (0, 3, 6, 9, 14, 25, 60):
                sets = doing_sets(program, charge)
                self.assertTrue(set(before) <= set(sets))
                self.same(doing_sets(with_only(program, ()), charge), sets)
                for places in sets:
                    self.assertLessEqual(Profile(with_only(program, places)).least, charge)
                before = sets
