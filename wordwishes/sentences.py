"""Words that are sentences, with a drawing, or that are none, with a paper that shows it."""

from wordwishes.arcs import surplus
from wordwishes.charts import chart_of, count_of_all, drawing_by_number
from wordwishes.lexicons import kinds_of, marks_of
from wordwishes.marks import hanging_with
from wordwishes.places import START, goals_wish


def signs_of(lexicon, words, choice):
    """The signs of the kinds that are chosen, the goal's wish behind them; NoWord where a word isn't there."""
    kinds = [kinds_of(lexicon, word) for word in words]
    signs = [sign for rows, number in zip(kinds, choice) for sign in rows[number]]
    return tuple(signs) + goals_wish(lexicon)


def is_always_uneven(order, kinds, mark):
    """Whether for no choice even and odd turns are as many, of the signs that hang together with the mark."""
    hanging = hanging_with(order, mark)
    surpluses = [0]
    for rows in kinds.values():
        surpluses = sorted(set([known + surplus(hanging, row) for known in surpluses for row in rows]))
    return 0 not in surpluses


def closed_paper(chart):
    """The pairs of places between which all signs may cancel: they are closed, and all of them must be there."""
    pairs = [(begin, end) for begin in chart.counts if begin != START for end in chart.counts[begin]]
    return ("closed", tuple(sorted(pairs)))


def why_none(lexicon, chart):
    """A paper that shows that the words of the chart, which have no drawing, are no sentence."""
    for mark in marks_of(lexicon):
        if is_always_uneven(lexicon[0], chart.kinds, mark):
            return ("counted", mark)
    return closed_paper(chart)


def sentence(lexicon, words):
    """("sentence", drawing), or ("none", paper); NoWord where a word isn't there."""
    chart = chart_of(lexicon, words)
    if count_of_all(chart) > 0:
        return ("sentence", drawing_by_number(chart, 0))
    return ("none", why_none(lexicon, chart))
