"""[52], [53]: profiles as objects."""

import copy
import functools
import inspect

from enoughcharge.answers import answers_at, least_right
from enoughcharge.errors import InvalidPaper, NotUsable
from enoughcharge.profileclasses import Profile
from enoughcharge.profiles import critical_charges, profile
from enoughcharge.programchanges import renamed, with_cell, with_costs, with_kind, with_marks, with_told
from enoughcharge.programclasses import Program
from enoughcharge.rings import falls_end, least_charge
from enoughcharge.runclasses import Run
from enoughcharge.widths import Width
from tests.samples import ANYTHING, COUNT, LATE, LOOP, MIXED, NOTHING, SIXTY, TWICE, Checks
from tests.search import small_searches
from tests.test_answers import ASKED, NARROW, TURN
from tests.test_loops import HIDDEN
from tests.test_profiles import SPOILT, STILL

PROGRAMS = (COUNT, TWICE, LATE, LOOP, NOTHING, MIXED, TURN, NARROW, ASKED, HIDDEN, STILL, SPOILT)
END = ("end",)


def comes_with(program, charge):
    """The answers, and whether a ring can come, as the functions tell them."""
    return (answers_at(program, charge), not falls_end(program, charge))


class ProfileChecks(Checks):
    def not_usable(self, word, function, *given, **named):
        self.refused(NotUsable, {"word": word, "at": -1}, function, *given, **named)


class ProfileTest(ProfileChecks):
    def test_index(self):
        for program in PROGRAMS:
            told = Profile(program=program)
            near = [charge + more for charge in critical_charges(program) for more in (-1, 0, 1)]
            for charge in near + [0, 1, 5, 99, SIXTY]:
                self.same(told[charge], comes_with(program, charge))
                self.assertIsNot(told[charge], told[charge])

    def test_no_charges(self):
        for thing in ANYTHING + (Width(3), slice(0, 1), Profile(COUNT)):
            if repr(thing) not in ("0", "1", "7", repr(SIXTY)):
                for program in (COUNT, LOOP):
                    with self.assertRaises(NotUsable) as caught:
                        Profile(program)[thing]
                    self.same(vars(caught.exception), {"word": "charge", "at": -1})

    def test_least(self):
        for program, least in ((COUNT, 3), (TWICE, 6), (LATE, 7), (LOOP, None), (NOTHING, 0), (TURN, None), (NARROW, 5), (STILL, 0)):
            self.same(Profile(program).least, least)
        # The falls can need more than the answers, and the answers more than the falls.
        self.same([Profile(LATE).least, least_right(LATE), least_charge(LATE)], [7, 0, 7])
        self.same([Profile(SPOILT).least, least_right(SPOILT), least_charge(SPOILT)], [10, 10, 2])

    def test_least_without_an_endless_ring(self):
        # A wrong answer has the width "endless", though the falls end.
        program = (TURN[0], (
            ("set", "x", ("plus", "x", 1), 1), ("unless", ("equal", "x", 1), 4, 1), ("ask", "q", 2), ("unless", ("equal", "q", 1), 2, 1),
            ("set", "q", 1, 3), END), ("x",))
        self.same([least_charge(program), least_right(program), Profile(program).least], [5, None, None])
        self.same([least_charge(LOOP), least_right(LOOP), Profile(LOOP).least], [None, 0, None])

    def test_calls(self):
        for program in PROGRAMS:
            told = Profile(program)
            for answer, right, width in profile(program)[1]:
                self.same(told(answer), (right, width))
                self.same(told(answer=answer), (right, width))
                self.assertIs(answer in told, True)
            self.same(len(told), len(profile(program)[1]))

    def test_what_is_no_answer(self):
        for program in (COUNT, NOTHING, LOOP, ASKED):
            told = Profile(program)
            answers = [repr(answer) for answer, _, _ in profile(program)[1]]
            for thing in ANYTHING + ((2, 2), (True,), (2.5,), [2], (3,), (-1,), ("2",), 2, ((2,),), (False, False), (0, True), (2, 3, 0), Width(2), Profile):
                if repr(thing) not in answers:
                    self.assertIs(thing in told, False)
                    with self.assertRaises(NotUsable) as caught:
                        told(thing)
                    self.same(vars(caught.exception), {"word": "answer", "at": -1})
        # Answers that never come are none of its answers.
        self.assertIs((0,) in Profile(COUNT), False)
        self.not_usable("answer", Profile(COUNT), (0,))

    def test_what_is_no_program(self):
        for word, at, thing in (
            ("shape", -1, None), ("shape", -1, ()), ("shape", -1, [(), (END,), ()]), ("shape", -1, ((), (), ())), ("shape", -1, Program(*COUNT)),
            ("cell", 0, ((None,), (END,), ())), ("start", 0, ((("n", "kept", 1, 2),), (END,), ())), ("word", 0, ((), (None,), ())),
            ("value", 0, ((), (("mark", 0), END), ())), ("cell", 0, ((), (("ask", "n", 1), END), ())), ("place", 0, ((), (("jump", 1, 1),), ())),
            ("last", -1, ((), (("mark", 1),), ())), ("told", -1, ((), (END,), ("n",))),
        ):
            with self.assertRaises(InvalidPaper) as caught:
                Profile(thing)
            self.same(vars(caught.exception), {"word": word, "at": at})
        with self.assertRaises(InvalidPaper):
            Profile(program=7)

    def test_it_never_changes(self):
        told = Profile(TWICE)
        kept = copy.deepcopy(vars(told))
        with self.assertRaises(AttributeError):
            told.least = 3
        with self.assertRaises(TypeError):
            told[3] = ()
        for _ in range(2):
            self.same([told[5][1], told((2,)), (2,) in told, len(told), told.least, told == Profile(COUNT), told <= Profile(COUNT)],
                      [True, (False, 5), True, 4, 6, False, False])
        self.same(vars(told), kept)

    def test_it_is_not_iterated_over(self):
        with self.assertRaises(TypeError):
            list(Profile(COUNT))

    def test_where_methods_are_defined(self):
        self.assertIsInstance(vars(Profile)["least"], property)
        self.assertEqual(Profile.__module__, "enoughcharge.profileclasses")
        for name in ("__init__", "__getitem__", "__call__", "__contains__", "__len__", "__eq__", "__le__", "__ge__"):
            self.assertTrue(inspect.isfunction(vars(Profile)[name]))


class CompareTest(ProfileChecks):
    def test_equal(self):
        for program in PROGRAMS:
            for other in PROGRAMS:
                equal = repr(profile(program)) == repr(profile(other))
                self.assertIs(Profile(program) == Profile(other), equal)
                self.assertIs(Profile(program) != Profile(other), not equal)
        self.assertTrue(Profile(TWICE) == Profile(renamed(TWICE, "x", "other")) == Profile(with_cell(TWICE, ("a", "kept", 1, 0))))
        self.assertFalse(Profile(TWICE) == Profile(with_costs(TWICE, 1)))

    def test_equal_to_no_other_value(self):
        for thing in ANYTHING + (profile(COUNT), Program(*COUNT), Run(COUNT), Width(), Profile, object()):
            self.assertIs(Profile(COUNT) == thing, False)
            self.assertIs(thing == Profile(COUNT), False)
            self.assertIs(Profile(COUNT) != thing, True)

    def test_only_profiles_are_ordered(self):
        for thing in (None, 3, profile(COUNT), Width(3)):
            with self.assertRaises(TypeError):
                Profile(COUNT) <= thing
            with self.assertRaises(TypeError):
                Profile(COUNT) >= thing

    def ordered(self, told, other, wanted):
        self.assertIs(told <= other, wanted)
        self.assertIs(other >= told, wanted)

    def test_order(self):
        saved = with_kind(TWICE, "x", "saved")
        for program, other, wanted in (
            (TWICE, TWICE, True), (saved, TWICE, True), (TWICE, saved, False), (LATE, with_marks(LATE, ()), False), (with_marks(LATE, ()), LATE, True),
            (LOOP, NOTHING, False), (NOTHING, LOOP, False), (NOTHING, with_told(COUNT, ()), True), (with_told(COUNT, ()), NOTHING, False),
            (NOTHING, NOTHING, True), (LOOP, LOOP, True), (COUNT, TWICE, False), (TWICE, COUNT, False), (TWICE, TURN, True), (TURN, TWICE, False),
            (COUNT, TURN, True), (STILL, TURN, True), (STILL, COUNT, False), (with_costs(TWICE, 1), TWICE, False), (TWICE, with_costs(TWICE, 1), True),
            (with_told(COUNT, ()), with_told(TWICE, ()), True), (with_told(TWICE, ()), with_told(COUNT, ()), False),
        ):
            self.ordered(Profile(program), Profile(other), wanted)

    def test_order_is_what_can_come_with_each_charge(self):
        programs = [search.program for search in small_searches(161, 40)]
        programs += [with_marks(program, ()) for program in programs] + [with_costs(program, 1) for program in programs]
        known = [(Profile(program), profile(program), critical_charges(program), functools.cache(functools.partial(comes_with, program)))
                 for program in programs]
        within = 0
        for told, form, charges, comes in known:
            for other, other_form, other_charges, other_comes in known:
                pairs = [(comes(charge), other_comes(charge)) for charge in {0, *charges, *other_charges}]
                wanted = all(set(mine) <= set(its) and ring <= its_ring for (mine, ring), (its, its_ring) in pairs)
                self.ordered(told, other, wanted)
                if told <= other <= told:
                    # [53]: the same answers, widths and ring widths.
                    self.same(form[0], other_form[0])
                    self.same([(answer, width) for answer, _, width in form[1]], [(answer, width) for answer, _, width in other_form[1]])
                within += wanted and form != other_form
        self.assertGreater(within, 50)


class AgainstSearchTest(ProfileChecks):
    def test_random_programs(self):
        for search in small_searches(162, 150):
            told = Profile(search.program)
            charges = critical_charges(search.program)
            for charge in {0, 4, 30, *charges, *[charge - 1 for charge in charges], *[charge + 1 for charge in charges]}:
                self.same(told[charge], (search.answers_at(charge), search.has_ring(charge)))
            least = told.least
            if least is None:
                self.assertIs(search.does(search.cap), False)
            else:
                self.assertIs(search.does(least), True)
                self.assertIs(least > 0 and search.does(least - 1), False)

    def test_consequences(self):
        for search in small_searches(163, 150):
            told = Profile(search.program)
            both = [least_charge(search.program), least_right(search.program)]
            self.same(told.least, None if None in both else max(both))
            charges = critical_charges(search.program)
            for charge in range(max(charges, default=0) + 2):
                if charge + 1 not in charges:
                    self.same(told[charge], told[charge + 1])
