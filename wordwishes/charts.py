"""Charts of words: how many drawings lead from place to place, and which number each of them has."""

from wordwishes.places import (
    START,
    begins_behind,
    kinds_by_number,
    last_place,
    next_place,
    places_of,
    places_of_signs,
    sign_behind,
)
from wordwishes.signs import cancel


class Chart:
    """What is known of the ways from each place, each by way of its first step.

    kinds: the kinds of each word by its number; end: the end of the goal's wish.
    steps: by the place, its first steps (mate, onward, inner): the sign behind the place is joined with the one
    behind the mate, inner tells how many drawings the signs between have, and it goes on from onward; at a kind's
    end it goes on from a begin of the next word, without a mate.
    counts: by the place, how many drawings lead to each place to which some lead.
    """

    def __init__(self, order, kinds):
        self.kinds = kinds
        self.end = last_place(kinds)
        self.steps = {}
        self.counts = {}
        # From the last place to the first, so that what lies behind a place is counted ahead of it.
        for place in reversed(places_of(kinds)):
            self.steps[place] = first_steps(order, self, place)
            self.counts[place] = counts_from(self, place)


def chart_of(lexicon, words):
    """The chart of the words; NoWord where the lexicon doesn't have one."""
    return Chart(lexicon[0], kinds_by_number(lexicon, words))


def are_joined(order, sign, other):
    """Whether the sign cancels with the other one, where there is another one."""
    return other is not None and cancel(order, sign, other)


def first_steps(order, chart, place):
    """The first steps from the place."""
    sign = sign_behind(chart.kinds, place)
    if sign is None:
        return [(None, begin, 1) for begin in begins_behind(chart.kinds, place)]
    return [
        (mate, next_place(mate), inner)
        for mate, inner in chart.counts[next_place(place)].items()
        if are_joined(order, sign, sign_behind(chart.kinds, mate))
    ]


def counts_from(chart, place):
    """How many drawings lead from the place to each place to which some lead."""
    counts = {place: 1}
    for mate, onward, inner in chart.steps[place]:
        for end, count in chart.counts[onward].items():
            counts[end] = counts.get(end, 0) + inner * count
    return counts


def count_of_all(chart):
    """How many drawings the words have."""
    return chart.counts[START].get(chart.end, 0)


def count_by_step(chart, step, end):
    """How many drawings lead to the end by way of this step."""
    mate, onward, inner = step
    return inner * chart.counts[onward].get(end, 0)


def step_by_number(chart, begin, end, number):
    """The first step of the drawing with this number, and its number among those by way of this step."""
    left = number
    at = 0
    steps = chart.steps[begin]
    while left >= count_by_step(chart, steps[at], end):
        left -= count_by_step(chart, steps[at], end)
        at += 1
    return (steps[at], left)


def drawing_by_number(chart, number):
    """The drawing with this number, of those that the words have."""
    kind_by_word = {}
    joined = []
    stretches = [(START, chart.end, number)]
    while len(stretches) > 0:
        begin, end, told = stretches.pop()
        if begin != end:
            (mate, onward, inner), left = step_by_number(chart, begin, end, told)
            number_within, number_onward = divmod(left, chart.counts[onward][end])
            stretches.append((onward, end, number_onward))
            if mate is None:
                kind_by_word[onward[0]] = onward[1]
            else:
                joined.append((begin, mate))
                stretches.append((next_place(begin), mate, number_within))
    choice = tuple([kind_by_word[word] for word in range(chart.end[0])])
    return (choice, arcs_between(chart, choice, joined))


def arcs_between(chart, choice, joined):
    """The arcs of the signs behind these pairs of places."""
    signs = {place: sign for sign, place in enumerate(places_of_signs(chart.kinds, choice))}
    return tuple(sorted([(signs[one], signs[other]) for one, other in joined]))


def mates_by(chart, drawing):
    """The places ahead of the signs that the drawing's arcs join, the right one by the left one."""
    choice, arcs = drawing
    places = places_of_signs(chart.kinds, choice)
    return {places[left]: places[right] for left, right in arcs}


def number_by_drawing(chart, drawing):
    """The number that the drawing has, of those that the words have."""
    mates = mates_by(chart, drawing)
    kinds_chosen = list(drawing[0]) + [0]
    number = 0
    stretches = [(START, chart.end, 1)]
    while len(stretches) > 0:
        begin, end, weight = stretches.pop()
        if begin != end:
            mate = mates.get(begin)
            word = begin[0] + 1
            onward = (word, kinds_chosen[word], 0) if mate is None else next_place(mate)
            number += weight * count_ahead(chart, begin, end, onward)
            stretches.append((onward, end, weight))
            if mate is not None:
                stretches.append((next_place(begin), mate, weight * chart.counts[onward][end]))
    return number


def count_ahead(chart, begin, end, onward):
    """How many drawings lead to the end by way of the steps ahead of the one that goes on from onward."""
    steps = chart.steps[begin]
    at = [step[1] for step in steps].index(onward)
    return sum([count_by_step(chart, step, end) for step in steps[:at]])
