"""Systems of as many equations as unknowns, solved exactly."""

from silentbeats.entries import parted


def with_pivot(rows, k):
    """The rows with the first from k on that has no 0 at k brought to k."""
    at = [j for j in range(k, len(rows)) if rows[j][k] != 0][0]
    return rows[:k] + [rows[at]] + rows[k:at] + rows[at + 1:]


def cleared(rows, k, before):
    """The rows with 0 at k in all but row k; before is the pivot ahead, which divides all that comes of it."""
    pivot_row = rows[k]
    pivot = pivot_row[k]
    return [
        row if at == k else [(pivot * a - row[k] * b) // before for a, b in zip(row, pivot_row)]
        for at, row in enumerate(rows)
    ]


def eliminated(rows):
    """The rows with one number, the last pivot, at the index of each and 0 beside it; and that number, 1 of none."""
    before = 1
    for k in range(len(rows)):
        rows = cleared(with_pivot(rows, k), k, before)
        before = rows[k][k]
    return (rows, before)


def solved(square, goals):
    """The only quotients that make each goal when they are multiplied by the weights of its row, a list, and added."""
    rows, pivot = eliminated([row + [goal] for row, goal in zip(square, goals)])
    return parted([row[-1] for row in rows], pivot)


def determinant_size(square):
    """The absolute value of the determinant, which is not 0, of these rows."""
    # The pivots come without fractions, so that the last of them is the determinant but for its sign.
    return abs(eliminated(square)[1])
