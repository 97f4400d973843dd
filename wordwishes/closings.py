"""Pairs of places that are closed, as the checker looks at them: none of them goes from a begin to the end."""

from wordwishes.signs import cancel


class Ground:
    """Places with signs between them, and what pairs of them are held to.

    asked: the pairs that must be there; barred: those that must not.
    ahead: by the place the sign ahead of it, with the place ahead of that sign, where there is one.
    behind: by the place the sign behind it, with the place behind that sign, where there is one.
    """

    def __init__(self, asked, barred):
        self.asked = asked
        self.barred = barred
        self.ahead = {}
        self.behind = {}


def put_sign(ground, sign, place, onward):
    """Puts the sign between a place and the next one."""
    ground.behind[place] = (sign, onward)
    ground.ahead[onward] = (sign, place)


def rise(pairs):
    """Whether each pair is less than the next one."""
    return all([one < other for one, other in zip(pairs, pairs[1:])])


def pair_around(order, ground, pair):
    """The pair that must be there with this one, since the signs next to it cancel, or None."""
    begin, end = pair
    if begin not in ground.ahead or end not in ground.behind:
        return None
    sign, place = ground.ahead[begin]
    other, onward = ground.behind[end]
    return (place, onward) if cancel(order, sign, other) else None


def are_all_around(order, ground, there):
    """Whether with each pair the one around it is there."""
    around = [pair_around(order, ground, pair) for pair in there]
    return all([pair is None or pair in there for pair in around])


def are_all_linked(there):
    """Whether with (x, y) and (y, z) always (x, z) is there."""
    ends = {}
    for begin, end in there:
        ends.setdefault(begin, []).append(end)
    for begin, end in there:
        for last in ends.get(end, []):
            if (begin, last) not in there:
                return False
    return True


def is_closed(order, ground, pairs):
    """Whether the pairs, which are pairs of places of the ground, show that nothing cancels wholly there."""
    there = {pair: True for pair in pairs}
    return (
        rise(pairs)
        and all([pair in there for pair in ground.asked])
        and not any([pair in there for pair in ground.barred])
        and are_all_around(order, ground, there)
        and are_all_linked(there)
    )
