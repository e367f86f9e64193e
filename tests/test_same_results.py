"""[41]: what stays the same when a program is changed where it does not matter."""

from enoughcharge.answers import answer_width, answers_at, least_right, right_answers
from enoughcharge.loops import has_own_loop
from enoughcharge.moments import first_moment
from enoughcharge.numbering import most_falls, numbering
from enoughcharge.programchanges import renamed, with_costs, with_instruction
from enoughcharge.rings import falls_end, ring_width
from enoughcharge.stretches import falls_from, most_spent
from tests.samples import COUNT, LATE, TWICE, Checks
from tests.search import small_searches

CHARGES = (0, 3, 7, 15)
INSTRUCTIONS = (("end",), ("jump", 0, 9), ("mark", 1), ("off", 4), ("jump", 1, 3))


def results(program):
    """What does not depend on instructions to which no run leads."""
    told = [ring_width(program)]
    for charge in CHARGES:
        told.append((falls_end(program, charge), most_falls(program, charge), has_own_loop(program, charge)))
        if falls_end(program, charge):
            told.append(numbering(program, charge))
    return told


def all_results(program):
    first = first_moment(program)
    answers = right_answers(program)
    return results(program) + [most_spent(program, first), falls_from(program, first), answers, least_right(program),
                               [answers_at(program, charge) for charge in CHARGES], [answer_width(program, answer) for answer in answers]]


class SameResultsTest(Checks):
    def test_other_names_in_the_same_order(self):
        self.same(all_results(renamed(COUNT, "n", "aa")), all_results(COUNT))
        self.same(all_results(renamed(renamed(TWICE, "q", "b"), "x", "c")), all_results(TWICE))
        for search in small_searches(131, 100):
            program = search.program
            for at, cell in enumerate(search.program[0]):
                program = renamed(program, cell[0], "a" * (at + 2) if at == 0 else cell[0] + "zz")
            self.same([cell[1:] for cell in program[0]], [cell[1:] for cell in search.program[0]])
            self.same(all_results(program), all_results(search.program))

    def test_what_stands_where_no_run_leads(self):
        changed = 0
        for search in small_searches(132, 150):
            met = {moment[1] for moment in search.steps}
            program = search.program
            wanted = results(program)
            for place in range(len(program[1]) - 1):
                if place not in met:
                    for instruction in INSTRUCTIONS:
                        if instruction[0] != "jump" or instruction[1] < len(program[1]):
                            self.same(results(with_instruction(program, place, instruction)), wanted)
                            changed += 1
        self.assertGreater(changed, 100)

    def test_each_cost_greater_by_one(self):
        for program in (COUNT, TWICE, LATE):
            self.assertGreaterEqual(ring_width(with_costs(program, 1)), ring_width(program))
