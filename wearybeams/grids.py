"""Grids of worths: in each row, from one place to every place, the least that a step between them is worth.

Places are numbered from 0. Where no step leads straight from one to another, the grid has NONE.
"""

# more than any way that is as short as can be is worth, so that no such way takes it for a step
NONE = 1000000000


def _shorter(row, first, by):
    """A row of a grid, where one may also go through a place: first to it, and then by its own row."""
    return [worth if worth <= first + more else first + more for worth, more in zip(row, by)]


def closed(grid):
    """The grid of the least worths of ways of any length; None where a ring is worth less than 0."""
    places = range(len(grid))
    told = [[min(0, worth) if at == to else worth for to, worth in enumerate(row)] for at, row in enumerate(grid)]
    for middle in places:
        by = told[middle]
        told = [_shorter(row, row[middle], by) for row in told]
    if any([told[at][at] < 0 for at in places]):
        return None
    return told


def _start(grid, place):
    """The worths of ways of no steps from a place."""
    return [0 if at == place else NONE for at in range(len(grid))]


def _one_step_more(grid, row):
    """From the least worths of ways of so many steps to each place: those of one step more."""
    return [min([worth + grid[at][to] for at, worth in enumerate(row)]) for to in range(len(grid))]


def _traced(grid, rows, end):
    """The places of a way, as long as there are rows behind the first, that is worth what the last one tells."""
    places = [end]
    for many in reversed(range(len(rows) - 1)):
        to = places[-1]
        worth = rows[many + 1][to]
        places.append([at for at, ahead in enumerate(rows[many]) if ahead + grid[at][to] == worth][0])
    return places[::-1]


def fewest(grid, start, end, worth):
    """The places, both ends with them, of a way of the fewest steps that is worth so much: the least that one is."""
    rows = [_start(grid, start)]
    while rows[-1][end] != worth:
        rows.append(_one_step_more(grid, rows[-1]))
    return _traced(grid, rows, end)


def fewest_ring(grid):
    """The places, the first one at both ends, of a ring of the fewest steps worth less than 0; there is one."""
    tables = [[_start(grid, place)] for place in range(len(grid))]
    while True:
        tables = [[*rows, _one_step_more(grid, rows[-1])] for rows in tables]
        for place, rows in enumerate(tables):
            if rows[-1][place] < 0:
                return _traced(grid, rows, place)


def first_fillings(far, bound):
    """The first, rising, at most so many, of the rows of numbers that a closed grid lets be, with 0 in place 0.

    Each row begun can be ended, so of the rows begun no more than the bound are ever needed.
    """
    fillings = [(0,)]
    for place in range(1, len(far)):
        longer = []
        for filling in fillings:
            least = max([number - far[place][at] for at, number in enumerate(filling)])
            most = min([number + far[at][place] for at, number in enumerate(filling)])
            longer.extend([(*filling, number) for number in range(least, most + 1)])
            if len(longer) >= bound:
                break
        fillings = longer[:bound]
    return fillings
