"""Plain rows: those in which no two neighbours cancel."""

from wordwishes.walks import cancels_in


def rows_by_one_cancel(order, row):
    """The rows to which the row comes by one cancel."""
    return [row[:place] + row[place + 2 :] for place in cancels_in(order, row)]


def plain_rows(order, row):
    """All plain rows to which the row comes by cancels alone, sorted, each once."""
    plain = []
    rows = [row]
    # All rows of one round have one length, so that none comes again in a later round.
    while len(rows) > 0:
        plain.extend([one for one in rows if len(cancels_in(order, one)) == 0])
        rows = sorted(set([shorter for one in rows for shorter in rows_by_one_cancel(order, one)]))
    return sorted(plain)
