"""[32]: runs that are led by hand."""

from enoughcharge.errors import NothingToUndo, NotUsable
from enoughcharge.moments import first_moment
from enoughcharge.programclasses import Program
from enoughcharge.runclasses import Run
from enoughcharge.runs import is_run, moment_after, spent_after, width_of
from enoughcharge.walkers import Walker
from enoughcharge.widths import Width
from tests.model import random_runs
from tests.samples import ANYTHING, COUNT, LATE, LOOP, NOTHING, TWICE, Checks

ASKS = ((("a", "kept", 3, 0),), (("ask", "a", 1), ("off", 2), ("ask", "a", 2), ("jump", 0, 3)), ("a",))
NO_MOVES = ANYTHING + ("Fall", "fall ", ["fall"], ("fall",), (-1,), (True,), ((),), [()], Width(), Walker, Run(COUNT))


class WalkerChecks(Checks):
    def stands(self, walker, program, made):
        self.same(walker.made, made)
        self.same(walker.moment_now, moment_after(program, made))
        self.same(walker.spent_now, spent_after(program, made))
        self.assertIs(walker.width_now.__class__, Width)
        self.same(walker.width_now.number, width_of(program, made))

    def not_usable(self, word, at, function, *given, **named):
        with self.assertRaises(NotUsable) as caught:
            function(*given, **named)
        self.same(vars(caught.exception), {"word": word, "at": at})

    def not_added(self, walker, move):
        with self.assertRaises(NotUsable) as caught:
            walker += move
        self.same(vars(caught.exception), {"word": "move", "at": -1})

    def nothing_to_undo(self, walker):
        with self.assertRaises(NothingToUndo) as caught:
            walker.undo()
        self.same(vars(caught.exception), {"steps": 0})


class MoveTest(WalkerChecks):
    def test_the_beginning(self):
        for program in (COUNT, TWICE, LATE, LOOP, NOTHING, ASKS):
            self.stands(Walker(program), program, ((),))
            self.stands(Walker(program=program), program, ((),))
            self.same(Walker(program).moment_now, first_moment(program))

    def test_steps_and_falls(self):
        walker = Walker(COUNT)
        self.same(walker.step(), ((0, ()), 1, (0,)))
        self.same(walker.step(()), ((0, ()), 2, (1,)))
        self.same(walker.fall(), ((0, ()), 0, (1,)))
        self.same(walker.step(step=()), ((0, ()), 1, (1,)))
        self.stands(walker, COUNT, (((), ()), ((),)))
        self.same(walker.fall(), ((0, ()), 0, (1,)))
        self.stands(walker, COUNT, (((), ()), ((),), ()))
        self.same(walker.width_now.number, 2)

    def test_asks(self):
        walker = Walker(ASKS)
        self.same(walker.step((3,)), ((0, ()), 1, (3,)))
        self.not_usable("fall", -1, walker.fall)
        self.same(walker.step(), ((0, ()), 2, (3,)))
        self.same(walker.step(step=(0,)), ((0, ()), 3, (0,)))
        self.stands(walker, ASKS, (((3,), (), (0,)),))
        self.same(walker.spent_now, 3)

    def test_steps_that_are_not_possible(self):
        walker = Walker(ASKS)
        for thing in NO_MOVES + ((), (4,), "fall"):
            if thing not in ((0,), (1,)) or thing is True or "True" in repr(thing):
                self.not_usable("step", -1, walker.step, thing)
        self.not_usable("step", -1, walker.step)
        self.stands(walker, ASKS, ((),))
        walker.step((1,))
        for thing in NO_MOVES + ((0,), "fall"):
            if thing != ():
                self.not_usable("step", -1, walker.step, step=thing)
        self.stands(walker, ASKS, (((1,),),))
        self.not_usable("step", -1, Walker(NOTHING).step)

    def test_falls_that_are_not_possible(self):
        self.not_usable("fall", -1, Walker(NOTHING).fall)
        walker = Walker(LATE)
        walker.step()
        walker.step()
        self.not_usable("fall", -1, walker.fall)
        self.stands(walker, LATE, (((), ()),))

    def test_moves_with_a_sign(self):
        walker = kept = Walker(ASKS)
        walker += (2,)
        self.not_added(walker, "fall")
        walker += ()
        self.stands(walker, ASKS, (((2,), ()),))
        self.assertIs(walker, kept)
        walker += (1,)
        walker += "fall"
        walker += "fall"
        self.stands(walker, ASKS, (((2,), (), (1,)), (), ()))
        self.assertIs(walker, kept)

    def test_what_is_no_move(self):
        walker = Walker(ASKS)
        for thing in NO_MOVES + ((), (4,), (True,), (False,)):
            if thing not in ((0,), (1,)) or "e" in repr(thing):
                self.not_added(walker, thing)
                self.stands(walker, ASKS, ((),))
        for thing in ("fall", (), (0,)):
            self.not_added(Walker(NOTHING), thing)
        self.not_added(Walker(COUNT), (0,))


class UndoTest(WalkerChecks):
    def test_to_the_beginning_and_beyond_it(self):
        walker = Walker(ASKS)
        moves = ["fall", (1,), (), (0,), "fall", "fall", (3,), ()]
        mades = []
        for move in moves:
            mades.append(walker.made)
            walker += move
        for move in moves[::-1]:
            self.same(walker.undo(), move)
            self.stands(walker, ASKS, mades.pop())
        self.same(walker.made, ((),))
        for _ in range(2):
            self.nothing_to_undo(walker)
            self.stands(walker, ASKS, ((),))
        self.nothing_to_undo(Walker(NOTHING))

    def test_an_undone_move_can_be_done_again(self):
        walker = Walker(COUNT)
        walker.step()
        self.same([walker.undo(), walker.step(), walker.fall(), walker.undo(), walker.undo()],
                  [(), ((0, ()), 1, (0,)), ((0, ()), 0, (0,)), "fall", ()])
        self.stands(walker, COUNT, ((),))

    def test_after_an_assignment(self):
        walker = Walker(ASKS)
        walker += (3,)
        walker.made = (((1,), ()), ((0,),))
        self.same([walker.undo() for _ in range(4)], [(0,), "fall", (), (1,)])
        self.nothing_to_undo(walker)


class MadeTest(WalkerChecks):
    def test_another_run(self):
        for program, made, _, _ in random_runs(31, 100):
            walker = Walker(program)
            self.same(walker.set_made(made), None)
            self.stands(walker, program, made)
            walker.set_made(made=((),))
            self.stands(walker, program, ((),))
            walker.made = made
            self.stands(walker, program, made)

    def test_what_is_no_run(self):
        walker = Walker(COUNT)
        walker.step()
        for thing in ANYTHING + ((((), (1,)),), [()], (((),) * 8,), (((),) * 7, ()), Run(COUNT), Walker(COUNT)):
            if thing not in (((),), ((), (), ())):
                self.not_usable("made", -1, walker.set_made, thing)
                self.not_usable("made", -1, walker.set_made, made=thing)
                with self.assertRaises(NotUsable) as caught:
                    walker.made = thing
                self.same(vars(caught.exception), {"word": "made", "at": -1})
                self.stands(walker, COUNT, (((),),))

    def test_only_made_is_assigned(self):
        walker = Walker(COUNT)
        for name in ("moment_now", "spent_now", "width_now"):
            with self.assertRaises(AttributeError):
                setattr(walker, name, 0)


class TrialTest(WalkerChecks):
    def test_all_is_taken_back(self):
        walker = Walker(COUNT)
        walker.step()
        with walker.trial() as held:
            self.assertIs(held, walker)
            walker.step()
            walker.fall()
            walker.undo()
            walker.undo()
            walker.undo()
            self.nothing_to_undo(walker)
            walker.made = ((), (), ((),))
            self.stands(walker, COUNT, ((), (), ((),)))
        self.stands(walker, COUNT, (((),),))
        walker += ()
        self.stands(walker, COUNT, (((), ()),))

    def test_it_begins_with_the_with(self):
        walker = Walker(COUNT)
        trial = walker.trial()
        walker.step()
        with trial:
            walker.step()
        self.stands(walker, COUNT, (((),),))
        with trial:
            walker.fall()
        self.stands(walker, COUNT, (((),),))

    def test_trials_within_trials(self):
        walker = Walker(COUNT)
        with walker.trial():
            walker.step()
            with walker.trial():
                walker.step()
                with walker.trial() as held:
                    held += "fall"
                    self.stands(walker, COUNT, (((), ()), ()))
                self.stands(walker, COUNT, (((), ()),))
                walker.undo()
                walker.undo()
            self.stands(walker, COUNT, (((),),))
            with walker.trial():
                walker.made = ((), ())
            self.stands(walker, COUNT, (((),),))
        self.stands(walker, COUNT, ((),))

    def test_a_trial_that_ends_by_an_error(self):
        walker = Walker(COUNT)
        walker.fall()
        with self.assertRaises(NotUsable):
            with walker.trial():
                walker.step()
                with walker.trial():
                    walker.step()
                    walker.step((0,))
        self.stands(walker, COUNT, ((), ()))
        for error in (KeyError, ZeroDivisionError, KeyboardInterrupt):
            with self.assertRaises(error):
                with walker.trial():
                    walker.step()
                    raise error
            self.stands(walker, COUNT, ((), ()))

    def test_two_walkers(self):
        one, other = Walker(COUNT), Walker(COUNT)
        with one.trial():
            with other.trial():
                one.step()
                other.fall()
            self.stands(one, COUNT, (((),),))
            self.stands(other, COUNT, ((),))
            other.step()
        self.stands(one, COUNT, ((),))
        self.stands(other, COUNT, (((),),))

    def test_tried(self):
        walker = Walker(ASKS)
        walker.step((2,))
        self.same(walker.tried(), walker.moment_now)
        self.same(walker.tried(()), ((0, ()), 2, (2,)))
        self.same(walker.tried((), (1,), "fall", "fall", (3,)), ((0, ()), 1, (3,)))
        self.stands(walker, ASKS, (((2,),),))

    def test_tried_what_is_not_possible(self):
        walker = Walker(ASKS)
        walker.step((2,))
        for thing in NO_MOVES + ((0,), "fall"):
            if thing != ():
                self.not_usable("moves", 0, walker.tried, thing, ())
                self.stands(walker, ASKS, (((2,),),))
        for thing in NO_MOVES + ((), (4,)):
            if thing not in ((0,), (1,)) or "e" in repr(thing):
                self.not_usable("moves", 1, walker.tried, (), thing, thing)
                self.not_usable("moves", 3, walker.tried, (), (1,), "fall", thing)
                self.stands(walker, ASKS, (((2,),),))

    def test_tried_within_a_trial(self):
        walker = Walker(ASKS)
        with walker.trial():
            walker.step((2,))
            self.same(walker.tried(()), ((0, ()), 2, (2,)))
            self.not_usable("moves", 1, walker.tried, (), ())
            self.stands(walker, ASKS, (((2,),),))
        self.stands(walker, ASKS, ((),))


class AgainstModelTest(WalkerChecks):
    def test_random_runs(self):
        for program, made, model, _ in random_runs(33, 200):
            walker = Walker(program)
            moves = [move for stretch in made for move in ("fall",) + stretch][1:]
            for at, move in enumerate(moves):
                moment = walker.fall() if move == "fall" else walker.step(move)
                self.same(walker.moment_now, moment)
            self.stands(walker, program, made)
            self.same([walker.moment_now, walker.spent_now], [model.moment(), model.spent])
            self.same(Walker(program).tried(*moves), model.moment())
            self.assertEqual(Run(program, walker.made).width_now, walker.width_now)
            self.same([walker.undo() for _ in moves], moves[::-1])
            self.same(walker.made, ((),))
            self.assertTrue(is_run(program, walker.made))
            self.assertFalse(Program(*program) == walker)
