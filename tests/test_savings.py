"""[56], [57]: the sets of kept cells that do if they are saved instead."""

from enoughcharge.errors import NotUsable
from enoughcharge.profileclasses import Profile
from enoughcharge.savings import saving_sets
from tests.samples import ANYTHING, COUNT, LATE, LOOP, NEITHER, NOTHING, SIXTY, TWICE, Checks
from tests.search import Search, all_sets, small_searches
from tests.test_answers import ASKED, TURN

KEEP = (
    (("q", "quick", 1, 0), ("x", "kept", 3, 0)),
    (("set", "q", 1, 4), ("mark", 1), ("set", "x", ("plus", "x", 1), 1), ("set", "q", 0, 1), ("end",)),
    ("x",),
)
# Two counts behind a mark, one of which is told; a step ahead of the mark is long.
BOTH = (
    (("q", "quick", 1, 0), ("x", "kept", 2, 0), ("y", "kept", 2, 0)),
    (("set", "q", 1, 4), ("mark", 1), ("set", "x", ("plus", "x", 1), 1), ("set", "y", ("plus", "y", "x"), 2), ("off", 3), ("set", "q", 0, 3), ("end",)),
    ("y",),
)


def saved_instead(program, names, price):
    """The program with these cells saved and each mark dearer."""
    cells, code, told = program
    changed = tuple((name, "saved" if name in names else kind, top, start) for name, kind, top, start in cells)
    lines = tuple((line[0], line[1] + price * len(names)) if line[0] in ("mark", "off") else line for line in code)
    return changed, lines, told


def searched_sets(program, charge, price):
    """The sets of kept cells that do, as a search tells."""
    kept = [name for name, kind, _, _ in program[0] if kind == "kept"]
    return tuple(names for names in all_sets(kept) if Search(saved_instead(program, names, price)).does(charge))


class SavingSetsTest(Checks):
    def does(self, program, charge, price, sets):
        self.same(saving_sets(program, charge, price), sets)
        self.same(saving_sets(price=price, charge=charge, program=program), sets)

    def test_keep(self):
        for charge, price, sets in (
            (5, 0, (("x",),)), (5, 1, ()), (7, 0, ((), ("x",))), (4, 0, ()), (0, 0, ()), (6, 0, (("x",),)), (6, 1, (("x",),)), (6, 2, ()),
            (7, 1, ((), ("x",))), (7, 3, ((),)), (7, 99, ((),)), (7, SIXTY, ((),)), (SIXTY + 9, SIXTY, ((), ("x",))), (99, 50, ((), ("x",))),
        ):
            self.does(KEEP, charge, price, sets)

    def test_without_kept_cells(self):
        for price in (0, 1, SIXTY):
            self.does(LATE, 6, price, ())
            self.does(LATE, 7, price, ((),))
            self.does(NOTHING, 0, price, ((),))
            self.does(LOOP, 99, price, ())

    def test_without_marks(self):
        # Nothing is dearer then; saved, the count begins anew with each fall.
        for price in (0, 1, 7, SIXTY):
            self.does(TWICE, 5, price, ())
            self.does(TWICE, 6, price, ((), ("x",)))
            self.does(COUNT, 2, price, ())
            self.does(COUNT, 3, price, ((),))
            self.does(COUNT, 8, price, ((),))
            self.does(COUNT, 9, price, ((), ("n",)))
            self.does(TURN, 99, price, ())

    def test_two_kept_cells(self):
        met = set()
        for charge in range(16):
            for price in (0, 1, 2):
                sets = searched_sets(BOTH, charge, price)
                self.does(BOTH, charge, price, sets)
                met.add(sets)
        self.assertIn(((), ("x",), ("x", "y"), ("y",)), met)
        self.assertTrue(any(("x", "y") in sets and ("y",) not in sets for sets in met))

    def test_each_mark_gets_dearer_for_each_cell(self):
        # Of two cells that are saved each makes the mark dearer: 2 + 3 and 2 + 6 are due at it.
        program = ((("a", "kept", 1, 0), ("b", "kept", 1, 0)), (("mark", 2), ("end",)), ())
        for charge, sets in ((1, ()), (2, ((),)), (4, ((),)), (5, ((), ("a",), ("b",))), (7, ((), ("a",), ("b",))), (8, ((), ("a",), ("a", "b"), ("b",)))):
            self.does(program, charge, 3, sets)

    def test_a_mark_that_is_off_costs_nothing(self):
        program = ((("a", "kept", 1, 0),), (("off", 2), ("end",)), ())
        for price in (0, 5, SIXTY):
            self.does(program, 0, price, ((), ("a",)))

    def test_what_is_no_number(self):
        for thing in ANYTHING + NEITHER:
            if repr(thing) not in ("0", "1", "7", repr(SIXTY)):
                for program in (KEEP, LATE, LOOP):
                    self.refused(NotUsable, {"word": "charge", "at": -1}, saving_sets, program, thing, 0)
                    self.refused(NotUsable, {"word": "charge", "at": -1}, saving_sets, program, thing, thing)
                    self.refused(NotUsable, {"word": "price", "at": -1}, saving_sets, program, 5, thing)
                self.refused(NotUsable, {"word": "price", "at": -1}, saving_sets, price=thing, charge=0, program=ASKED)

    def test_random_programs(self):
        met = {}
        for search in small_searches(191, 200, 30):
            program = search.program
            for charge, price in ((0, 0), (4, 1), (9, 2), (20, 0), (20, 7)):
                sets = searched_sets(program, charge, price)
                self.does(program, charge, price, sets)
                kept = [name for name, kind, _, _ in program[0] if kind == "kept"]
                kind = (bool(kept), "none" if not sets else "all" if len(sets) == 1 << len(kept) else "some")
                met[kind] = met.get(kind, 0) + 1
        self.assertGreater(min(met[True, "none"], met[True, "some"], met[True, "all"], met[False, "all"]), 10)

    def test_consequences(self):
        for search in small_searches(192, 120, 40):
            program = search.program
            before = ()
            for charge in (0, 3, 6, 9, 14, 25, 60):
                sets = saving_sets(program, charge, 1)
                self.assertTrue(set(before) <= set(sets))
                self.assertIs(() in sets, Profile(program).least is not None and Profile(program).least <= charge)
                before = sets
