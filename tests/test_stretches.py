"""[33], [34]: the most that can be spent without a fall."""

from enoughcharge.errors import NotUsable
from enoughcharge.moments import first_moment
from enoughcharge.stretches import falls_from, most_spent
from tests.samples import ANYTHING, COUNT, LATE, LOOP, NOTHING, SIXTY, TWICE, Checks
from tests.search import small_searches

# An ask that leads into a round, past it, or to the end; a mark behind the round.
TURN = (
    (("k", "kept", 2, 0), ("q", "quick", 1, 0), ("s", "saved", 1, 1)),
    (
        ("ask", "k", 3), ("unless", ("equal", "k", 1), 4, 1), ("off", 9), ("jump", 2, 2),
        ("unless", ("equal", "k", 0), 7, 1), ("set", "s", 0, 5), ("mark", 1), ("end",),
    ),
    ("k",),
)
# Two ways that meet, one of them dearer though it has fewer steps.
MEET = (
    (("k", "kept", 1, 0),),
    (("ask", "k", 1), ("unless", ("equal", "k", 0), 5, 1), ("set", "k", 1, 1), ("set", "k", 1, 1), ("jump", 6, 1), ("jump", 6, 9),
     ("mark", 4), ("end",)),
    (),
)


class StretchChecks(Checks):
    def told(self, program, waking, spent, widths):
        self.same(most_spent(program, waking), spent)
        self.same(most_spent(waking=waking, program=program), spent)
        self.same(falls_from(program, waking), widths)
        self.same(falls_from(waking=waking, program=program), widths)

    def not_usable(self, program, thing):
        self.refused(NotUsable, {"word": "waking", "at": -1}, most_spent, program, thing)
        self.refused(NotUsable, {"word": "waking", "at": -1}, falls_from, program, thing)


class StretchTest(StretchChecks):
    def test_nothing_to_spend(self):
        first = first_moment(NOTHING)
        self.told(NOTHING, first, ((first, 0),), ())
        offs = ((), (("off", 3), ("off", 9), ("end",)), ())
        self.told(offs, first, tuple((((0, ()), place, ()), 0) for place in range(3)), ())

    def test_an_off_costs_nothing(self):
        program = ((), (("off", 3), ("mark", 2), ("off", 9), ("mark", 4), ("off", 1), ("end",)), ())
        self.told(
            program, ((0, ()), 0, ()),
            ((((0, ()), 0, ()), 0), (((0, ()), 1, ()), 0), (((2, ()), 2, ()), 2), (((2, ()), 3, ()), 2), (((4, ()), 4, ()), 6), (((4, ()), 5, ()), 6)),
            ((((0, ()), 0, ()), 1), (((2, ()), 2, ()), 5)),
        )
        self.told(program, ((4, ()), 4, ()), ((((4, ()), 4, ()), 0), (((4, ()), 5, ()), 0)), ())

    def test_the_examples_of_count_as_a_whole(self):
        one = ((0, ()), 0, (1,))
        self.told(COUNT, one, (
            (one, 0), (((0, ()), 0, (2,)), 4), (((0, ()), 1, (1,)), 1), (((0, ()), 2, (2,)), 3), (((0, ()), 3, (2,)), 5),
        ), ((one, 2), (((0, ()), 0, (2,)), 4)))

    def test_a_waking_need_not_come(self):
        three = ((0, ()), 0, (3,))
        self.told(COUNT, three, ((three, 0), (((0, ()), 3, (3,)), 1)), ((three, 0),))
        for place, copied in ((1, 0), (2, 0), (2, 1)):
            waking = ((place, (copied,)), place, (copied,))
            self.same(most_spent(LATE, waking)[0], (waking, 0))
        self.told(LATE, ((1, (1,)), 1, (1,)), ((((1, (1,)), 1, (1,)), 0), (((2, (1,)), 2, (1,)), 1)), ((((1, (1,)), 1, (1,)), 0),))
        self.told(LATE, ((2, (0,)), 2, (0,)), ((((2, (0,)), 2, (0,)), 0),), ())

    def test_the_dearest_way_counts(self):
        spent = dict(most_spent(MEET, first_moment(MEET)))
        self.same([spent[((0, ()), place, (1,))] for place in (1, 3, 4, 5, 6)], [1, 3, 4, 2, 11])
        self.same(falls_from(MEET, first_moment(MEET)), ((((0, ()), 0, (0,)), 2), (((0, ()), 0, (1,)), 14)))

        cells, code, _ = MEET
        other = (cells, code[:1] + (("unless", ("equal", "k", 1), 5, 1),) + code[2:3] + (("set", "k", 0, 1),) + code[4:], ())
        spent = dict(most_spent(other, first_moment(other)))
        self.same([spent[((0, ()), place, (0,))] for place in (0, 1, 4, 5, 6)], [0, 1, 4, 2, 11])
        self.same(falls_from(other, first_moment(other))[0], (((0, ()), 0, (0,)), 14))

    def test_rounds(self):
        first = first_moment(TURN)
        spent = dict(most_spent(TURN, first))
        copy = (0, (1,))
        self.same([spent[(copy, place, (1, 0, 1))] for place in (1, 2, 3)], [3, "endless", "endless"])
        self.same([spent[(copy, place, (0, 0, 1))] for place in (0, 1, 4, 5)], [0, 3, 4, 5])
        self.same([spent[((7, (0,)), 7, (0, 0, 0))], spent[(copy, 7, (2, 0, 1))]], [11, 5])
        self.assertNotIn((copy, 0, (1, 0, 1)), spent)
        self.same(falls_from(TURN, first), (
            ((copy, 0, (0, 0, 1)), 10), ((copy, 0, (1, 0, 1)), "endless"), ((copy, 0, (2, 0, 1)), 4),
        ))

    def test_behind_a_round_all_is_endless(self):
        first = first_moment(LOOP)
        self.told(LOOP, first, ((first, "endless"),), ((first, "endless"),))
        program = ((("k", "kept", 1, 0),), (("ask", "k", 1), ("unless", ("equal", "k", 0), 0, 1), ("mark", 1), ("end",)), ())
        zero, one = ((0, ()), 0, (0,)), ((0, ()), 0, (1,))
        behind = tuple((((0, ()), place, (value,)), "endless") for place, value in ((0, 1), (1, 0), (1, 1), (2, 0)))
        self.told(program, zero, ((zero, 0),) + behind + ((((3, ()), 3, (0,)), "endless"),), ((zero, "endless"), (one, "endless")))

    def test_ahead_of_a_round_it_is_not_endless(self):
        program = ((), (("mark", 1), ("mark", 2), ("jump", 2, 9)), ())
        first = first_moment(program)
        self.told(program, first, ((first, 0), (((1, ()), 1, ()), 1), (((2, ()), 2, ()), "endless")), (
            (first, 0), (((1, ()), 1, ()), 2), (((2, ()), 2, ()), "endless"),
        ))

    def test_great_costs(self):
        program = ((), (("mark", SIXTY), ("mark", SIXTY), ("end",)), ())
        self.same(most_spent(program, first_moment(program))[-1][1], 2 * SIXTY)
        self.same(falls_from(program, first_moment(program))[1][1], 2 * SIXTY - 1)

    def test_a_long_way(self):
        program = ((("k", "kept", 5000, 0),), (("set", "k", ("plus", "k", 1), 2), ("unless", ("equal", "k", 0), 0, 3), ("end",)), ())
        spent = most_spent(program, first_moment(program))
        self.same([len(spent), spent[-1]], [5001 * 2 + 1, (((0, ()), 2, (0,)), 25005)])

    def test_what_is_no_waking(self):
        for thing in ANYTHING:
            for program in (COUNT, LOOP, LATE):
                self.not_usable(program, thing)
        for moment in (((0, ()), 1, (0,)), ((1, ()), 0, (0,)), ((0, ()), 0, (4,)), ((0, ()), 0, (True,)), ((0, ()), False, (0,)), [(0, ()), 0, (0,)]):
            self.not_usable(COUNT, moment)
        self.not_usable(TWICE, ((0, ()), 0, (1, 0)))
        self.not_usable(LATE, ((0, (0,)), 0, (1,)))
        self.not_usable(LATE, ((2, (0,)), 1, (0,)))

    def test_against_the_search(self):
        endless = 0
        for search in small_searches(41, 300):
            for waking in search.falls(0):
                most = search.most(waking)
                widths = search.widths(waking)
                endless += "endless" in most.values()
                self.told(search.program, waking, tuple((moment, most[moment]) for moment in sorted(most)),
                          tuple((after, widths[after]) for after in sorted(widths)))
        self.assertGreater(endless, 100)

    def test_consequences(self):
        for search in small_searches(42, 200):
            for waking in search.falls(0):
                for charge in (0, 2, 5, 9, 40):
                    can = {after for after, width in falls_from(search.program, waking) if width == "endless" or width >= charge}
                    self.assertEqual(can, search.after_falls(waking, charge))
