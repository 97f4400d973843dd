"""A judge of claims and papers, point 23 of the document rule by rule; it asks the program nothing."""

import fractions
import itertools
import math
import re

MOST_SIGNS = 60
MOST_WORDS = 8
MOST_WAYS = 2048


def is_a(thing, kind):
    return thing.__class__ is kind


def is_tuple(thing, many=None):
    return is_a(thing, tuple) and (many is None or len(thing) == many)


def is_short(thing):
    return is_a(thing, str) and re.fullmatch("[a-z]{1,8}", thing) is not None


def is_number(thing, least, most):
    return is_a(thing, int) and least <= thing <= most


def is_order(thing):
    return (
        is_tuple(thing) and len(thing) <= 8 and all(is_tuple(pair, 2) and all(map(is_short, pair)) for pair in thing)
    )


def is_sign(thing):
    return is_tuple(thing, 2) and is_short(thing[0]) and is_number(thing[1], -99, 99)


def is_row(thing, most):
    return is_tuple(thing) and len(thing) <= most and all(map(is_sign, thing))


def is_entry(thing):
    if not is_tuple(thing, 2) or not is_short(thing[0]) or not is_tuple(thing[1]) or not 1 <= len(thing[1]) <= 4:
        return False
    return all(is_row(kind, 5) for kind in thing[1]) and len(set(thing[1])) == len(thing[1])


def is_lexicon(thing):
    if not is_tuple(thing, 3) or not is_order(thing[0]) or not is_short(thing[1]) or not is_tuple(thing[2]):
        return False
    entries = thing[2]
    if not 1 <= len(entries) <= 10 or not all(map(is_entry, entries)):
        return False
    return len({word for word, kinds in entries}) == len(entries)


def are_words(lexicon, thing):
    if not is_lexicon(lexicon) or not is_tuple(thing) or len(thing) > MOST_WORDS:
        return False
    table = dict(lexicon[2])
    if not all(is_short(word) and word in table for word in thing):
        return False
    return sum(len(kind) for word in thing for kind in table[word]) <= MOST_SIGNS


def is_at_most(order, one, other):
    above = {one}
    for time in range(len(order) + 1):
        above |= {high for low, high in order if low in above}
    return other in above


def cancels(order, one, other):
    (a, n), (b, m) = one, other
    return m == n + 1 and (is_at_most(order, a, b) if n % 2 == 0 else is_at_most(order, b, a))


def grows(order, one, other):
    (a, m), (b, n) = one, other
    return m == n + 1 and (is_at_most(order, a, b) if n % 2 == 0 else is_at_most(order, b, a))


def is_drawing_of_row(order, row, arcs):
    if not is_tuple(arcs):
        return False
    for arc in arcs:
        if not is_tuple(arc, 2) or not all(is_number(end, 0, len(row) - 1) for end in arc) or not arc[0] < arc[1]:
            return False
    if any(not one < other for one, other in zip(arcs, arcs[1:])):
        return False
    if sorted(itertools.chain(*arcs)) != list(range(len(row))):
        return False
    if any(i < k < j < l for i, j in arcs for k, l in arcs):
        return False
    return all(cancels(order, row[i], row[j]) for i, j in arcs)


def row_of(lexicon, words, choice):
    table = dict(lexicon[2])
    return tuple(itertools.chain(*[table[word][k] for word, k in zip(words, choice)])) + ((lexicon[1], 1),)


def is_drawing(lexicon, words, thing):
    table = dict(lexicon[2])
    if not is_tuple(thing, 2) or not is_tuple(thing[0], len(words)):
        return False
    if not all(is_number(k, 0, len(table[word]) - 1) for word, k in zip(words, thing[0])):
        return False
    return is_drawing_of_row(lexicon[0], row_of(lexicon, words, thing[0]), thing[1])


def hanging(order, mark):
    told = {mark}
    for time in range(len(order) + 1):
        told |= {one for pair in order for one in pair if told & set(pair)}
    return told


def is_even(order, row, mark):
    turns = [turn for one, turn in row if one in hanging(order, mark)]
    return len([turn for turn in turns if turn % 2 == 0]) * 2 == len(turns)


def rises(pairs):
    return all(one < other for one, other in zip(pairs, pairs[1:]))


def is_linked(there):
    ends = {x: [] for x, y in there}
    for x, y in there:
        ends[x].append(y)
    return all((x, z) in there for x, y in there for z in ends.get(y, []))


def is_row_paper(order, row, thing):
    if not is_tuple(thing, 2) or not is_a(thing[0], str):
        return False
    name, told = thing
    if name == "counted":
        return is_short(told) and not is_even(order, row, told)
    many = len(row)
    if name != "closed" or not is_tuple(told):
        return False
    if not all(is_tuple(pair, 2) and all(is_number(at, 0, many) for at in pair) for pair in told):
        return False
    there = set(told)
    return (
        rises(told)
        and all(i <= j for i, j in told)
        and all((at, at) in there for at in range(many + 1))
        and is_linked(there)
        and all(
            (i - 1, j + 1) in there for i, j in there if i > 0 and j < many and cancels(order, row[i - 1], row[j])
        )
        and (0, many) not in there
    )


def is_words_paper(lexicon, words, thing):
    if not is_tuple(thing, 2) or not is_a(thing[0], str):
        return False
    name, told = thing
    table = dict(lexicon[2])
    order = lexicon[0]
    if name == "counted":
        choices = itertools.product(*[range(len(table[word])) for word in words])
        return is_short(told) and not any(is_even(order, row_of(lexicon, words, choice), told) for choice in choices)
    if name != "closed" or not is_tuple(told):
        return False
    kinds = [table[word] for word in words] + [(((lexicon[1], 1),),)]
    places = {(w, k, p) for w in range(len(kinds)) for k, row in enumerate(kinds[w]) for p in range(len(row) + 1)}
    for pair in told:
        if not is_tuple(pair, 2):
            return False
        for place in pair:
            if not is_tuple(place, 3) or not all(is_a(part, int) for part in place) or place not in places:
                return False
    there = set(told)
    if not rises(told) or any((place, place) not in there for place in places):
        return False
    for w in range(len(words)):
        for k, row in enumerate(kinds[w]):
            if any(((w, k, len(row)), (w + 1, l, 0)) not in there for l in range(len(kinds[w + 1]))):
                return False
    for (w, k, p), (v, l, q) in there:
        if p > 0 and q < len(kinds[v][l]) and cancels(order, kinds[w][k][p - 1], kinds[v][l][q]):
            if ((w, k, p - 1), (v, l, q + 1)) not in there:
                return False
    return is_linked(there) and not any(
        ((0, k, 0), (len(words), 0, 1)) in there for k in range(len(kinds[0]))
    )


def step_gone(order, row, step):
    """The row behind the step, or None."""
    if not is_tuple(step) or not step or not is_a(step[0], str):
        return None
    if step[0] == "cancel" and len(step) == 2:
        place = step[1]
        if is_number(place, 0, len(row) - 2) and cancels(order, row[place], row[place + 1]):
            return row[:place] + row[place + 2 :]
    if step[0] == "order" and len(step) == 3:
        place, mark = step[1:]
        if is_number(place, 0, len(row) - 1) and is_short(mark):
            low, high = (row[place][0], mark) if row[place][1] % 2 == 0 else (mark, row[place][0])
            if is_at_most(order, low, high):
                return row[:place] + ((mark, row[place][1]),) + row[place + 1 :]
    if step[0] == "grow" and len(step) == 4:
        place, one, other = step[1:]
        if is_number(place, 0, len(row)) and is_sign(one) and is_sign(other) and grows(order, one, other):
            return row[:place] + (one, other) + row[place:]
    return None


def leads_there(order, one, other, walk):
    if not is_tuple(walk):
        return False
    row = one
    for step in walk:
        row = step_gone(order, row, step)
        if row is None:
            return False
    return row == other


def are_order_and_rows(parts):
    return len(parts) == 3 and is_order(parts[0]) and all(is_row(row, MOST_SIGNS) for row in parts[1:])


def right_wish(row):
    return tuple((mark, turn + 1) for mark, turn in row[::-1])


def marks_of(lexicon):
    order, goal, entries = lexicon
    marks = {goal} | {mark for pair in order for mark in pair}
    return sorted(marks | {mark for word, kinds in entries for kind in kinds for mark, turn in kind})


def is_cell(how, thing):
    if how == "truths":
        return is_a(thing, bool)
    if not is_tuple(thing, 2) or not all(is_a(part, int) for part in thing):
        return False
    top, bottom = thing
    return abs(top) < 10**30 and 1 <= bottom < 10**30 and math.gcd(top, bottom) == 1


def is_world(lexicon, thing):
    if not is_tuple(thing, 3) or not is_a(thing[0], str) or thing[0] not in ["sums", "truths"]:
        return False
    how, sizes, tables = thing
    if not is_tuple(sizes):
        return False
    if not all(is_tuple(part, 2) and is_a(part[0], str) and is_number(part[1], 1, 3) for part in sizes):
        return False
    if [mark for mark, size in sizes] != marks_of(lexicon):
        return False
    size_of = dict(sizes)
    if any(size_of[low] != size_of[high] for low, high in lexicon[0]) or not is_tuple(tables, len(lexicon[2])):
        return False
    for table, (word, kinds) in zip(tables, lexicon[2]):
        if not is_tuple(table, len(kinds)):
            return False
        for cells, kind in zip(table, kinds):
            if not is_tuple(cells, math.prod([size_of[mark] for mark, turn in kind])):
                return False
            if not all(is_cell(how, cell) for cell in cells):
                return False
    return True


def meaning(lexicon, world, words, drawing):
    """What the drawing means, or None where there are too many ways."""
    how, sizes, tables = world
    choice, arcs = drawing
    size_of = dict(sizes)
    row = row_of(lexicon, words, choice)
    last = len(row) - 1
    goal = [arc for arc in arcs if last in arc][0]
    others = [arc for arc in arcs if arc != goal]
    if math.prod([size_of[row[i][0]] for i, j in others]) > MOST_WAYS:
        return None
    names = [word for word, kinds in lexicon[2]]
    told = []
    for g in range(size_of[lexicon[1]]):
        total = fractions.Fraction(0)
        for way in itertools.product(*[range(size_of[row[i][0]]) for i, j in others]):
            index = {goal[0]: g, goal[1]: g}
            for (i, j), one in zip(others, way):
                index[i] = index[j] = one
            at = 0
            value = fractions.Fraction(1)
            for word, k in zip(words, choice):
                entry = names.index(word)
                kind = lexicon[2][entry][1][k]
                cell = 0
                for mark, turn in kind:
                    cell = cell * size_of[mark] + index[at]
                    at += 1
                found = tables[entry][k][cell]
                value *= fractions.Fraction(*found) if how == "sums" else int(found)
            total += value
        told.append((total.numerator, total.denominator) if how == "sums" else total > 0)
    return tuple(told)


def is_meaning(parts):
    if len(parts) != 5:
        return False
    lexicon, world, words, drawing, things = parts
    if not are_words(lexicon, words) or not is_world(lexicon, world) or not is_drawing(lexicon, words, drawing):
        return False
    right = meaning(lexicon, world, words, drawing)
    return right is not None and is_written_alike(things, right)


def is_written_alike(one, other):
    if one.__class__ is not other.__class__:
        return False
    if is_a(one, tuple):
        return len(one) == len(other) and all(is_written_alike(a, b) for a, b in zip(one, other))
    return one == other


def is_parted(parts, paper):
    if len(parts) != 3 or not is_tuple(paper, 2):
        return False
    one, other, words = parts
    if not are_words(one, words) or not are_words(other, words):
        return False
    return (is_drawing(one, words, paper[0]) and is_words_paper(other, words, paper[1])) or (
        is_words_paper(one, words, paper[0]) and is_drawing(other, words, paper[1])
    )


def judged(claim, paper):
    """Whether the claim and the paper are as told."""
    if not is_tuple(claim) or not claim or not is_a(claim[0], str):
        return False
    name, parts = claim[0], claim[1:]
    if name in ["sentence", "no sentence", "twofold"]:
        if len(parts) != 2 or not are_words(*parts):
            return False
        if name == "sentence":
            return is_drawing(*parts, paper)
        if name == "no sentence":
            return is_words_paper(*parts, paper)
        return is_tuple(paper, 2) and all(is_drawing(*parts, one) for one in paper) and paper[0] != paper[1]
    if name == "comes":
        return are_order_and_rows(parts) and leads_there(*parts, paper)
    if name == "comes not":
        return are_order_and_rows(parts) and is_row_paper(parts[0], parts[1] + right_wish(parts[2]), paper)
    if name == "parted":
        return is_parted(parts, paper)
    return name == "means" and paper is None and is_meaning(parts)
