"""[30]: stories of runs."""

import inspect

from enoughcharge.errors import NotUsable
from enoughcharge.moments import waking_of
from enoughcharge.runs import moment_after, spent_after
from enoughcharge.stories import story_of
from tests.model import Model, random_runs
from tests.samples import ANYTHING, COUNT, LATE, LOOP, MIXED, NOTHING, TWICE, Checks


class StoryTest(Checks):
    def told(self, program, made, wanted):
        self.same(list(story_of(program, made)), wanted)
        self.same(list(story_of(made=made, program=program)), wanted)

    def test_unbroken_runs(self):
        self.told(NOTHING, ((),), [(0, 0)])
        self.told(COUNT, ((),), [(0, 0)])
        self.told(COUNT, (((),) * 7,), [(0, 0), (1, 1), (2, 3), (0, 4), (1, 5), (2, 7), (0, 8), (3, 9)])

    def test_falls_and_empty_stretches(self):
        self.told(TWICE, (((),), (), (), ((), ())), [(0, 0), (1, 1), (0, 0), (0, 0), (0, 0), (1, 1), (2, 6)])
        self.told(LATE, (((), ()),), [(0, 0), (1, 6), (2, 7)])
        self.told(LATE, (((),), ((), ())), [(0, 0), (1, 6), (0, 0), (1, 6), (2, 7)])
        self.told(LOOP, ((), (), ((), ())), [(0, 0), (0, 0), (0, 0), (0, 2), (0, 4)])

    def test_off_and_ask(self):
        self.told(MIXED, (((2,), (), (), (), ()), ((),)), [(0, 0), (1, 2), (2, 2), (3, 3), (4, 6), (5, 8), (4, 0), (5, 2)])

    def test_it_is_a_generator(self):
        story = story_of(COUNT, (((), ()), ((),)))
        self.assertTrue(inspect.isgenerator(story))
        self.same(next(story), (0, 0))
        self.same(next(story), (1, 1))
        self.same(list(story), [(2, 3), (0, 0), (1, 1)])

    def test_it_raises_when_the_first_pair_is_asked_for(self):
        for thing in ANYTHING + ([], [()], (((), (1,)),), (((),) * 8,), (((),) * 7, ())):
            if thing not in (((),), ((), (), ())):
                story = story_of(COUNT, thing)
                with self.assertRaises(NotUsable) as caught:
                    next(story)
                self.same(vars(caught.exception), {"word": "made", "at": -1})
                self.same(list(story), [])

    def test_against_the_model(self):
        for program, made, model, met in random_runs(11, 300):
            pairs = list(story_of(program, made))
            self.assertEqual(len(pairs), len(made) + sum(len(stretch) for stretch in made))
            self.same(pairs[-1], (model.place, model.spent))
            again = Model(program)
            wanted = []
            for at, stretch in enumerate(made):
                wanted.append((again.place, again.spent))
                for step in stretch:
                    again.step(step)
                    wanted.append((again.place, again.spent))
                if at + 1 < len(made):
                    again.fall()
            self.same(pairs, wanted)
            self.same(pairs[-1], (moment_after(program, made)[1], spent_after(program, made)))
            self.assertTrue(waking_of(program, moment_after(program, made)))
