"""Papers of right and wrong answers."""

from enoughcharge.charges import check_charge
from enoughcharge.fallmaps import fall_map, falls_to
from enoughcharge.moments import answered
from enoughcharge.onpapers import bound_table
from enoughcharge.shownruns import shown_run
from enoughcharge.ways import labels_back, shortest_from


def right_paper(program, charge):
    """A paper that shows whether only right answers can come with the charge."""
    check_charge(charge)
    fallmap = fall_map(program, charge)
    met = shortest_from(fallmap.roads, fallmap.first)
    shown = shown_answers(program, fallmap.first, met)
    wrong = wrong_run(program, fallmap, shown, charge)
    if wrong is not None:
        return ("wrong", wrong, tuple(sorted(set(met))))
    rows = [(waking, bound_table(fallmap.roads, waking, charge)) for waking in sorted(set(fallmap.falls))]
    return ("right", tuple(rows), tuple([(answer, shown[answer]) for answer in sorted(set(shown))]))


def shown_answers(program, first, met):
    """For each answer that comes without a fall a stretch from the first moment that ends with it."""
    shown = {}
    for moment in met:
        answer = answered(program, moment)
        if answer is not None and answer not in shown:
            shown[answer] = labels_back(met, first, moment)
    return shown


def wrong_run(program, fallmap, right, charge):
    """A run that can come with the charge and ends with an answer that is none of the right ones; None without any."""
    for waking in fallmap.falls:
        met = shortest_from(fallmap.roads, waking)
        for moment in met:
            answer = answered(program, moment)
            if answer is not None and answer not in right:
                stretch = labels_back(met, waking, moment)
                return shown_run(fallmap.roads, falls_to(fallmap, waking), charge, stretch)
    return None
