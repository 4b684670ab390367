"""Least bills of any rows of symbols, and heights that show them."""

from foreworth.errors import TooLarge

MOST_FRONTS = 5000


def front_heights(prices, rows):
    """The dict of the heights of all reachable fronts."""
    heights = {}
    # A front behind another one is greater in the order of tuples.
    for front in sorted(reachable_fronts(rows), reverse=True):
        sums = [prices[symbol] + heights[front_behind(rows, front, symbol)]
                for symbol in symbols_due(rows, front)]
        heights[front] = min(sums, default=0)
    return heights


def least_row(prices, rows):
    """The least height of all rows, and the least symbols that reach it."""
    heights = front_heights(prices, rows)
    front = zeros(rows)
    symbols = []
    due = symbols_due(rows, front)
    while due:
        fronts = [front_behind(rows, front, symbol) for symbol in due]
        sums = [prices[symbol] + heights[behind] for symbol, behind in zip(due, fronts)]
        place = sums.index(heights[front])
        symbols.append(due[place])
        front = fronts[place]
        due = symbols_due(rows, front)
    return (heights[zeros(rows)], symbols)


def check_heights(prices, rows, heights, claim):
    """Tell whether the heights show the claim."""
    fronts = reachable_fronts(rows)
    if any([front not in heights for front in fronts]):
        return False
    if heights[zeros(rows)] < claim:
        return False
    return all([is_low_enough(prices, rows, heights, front) for front in fronts])


def is_low_enough(prices, rows, heights, front):
    """Tell whether the claimed height of a front goes with those behind it."""
    due = symbols_due(rows, front)
    if not due:
        return heights[front] <= 0
    sums = [prices[symbol] + heights[front_behind(rows, front, symbol)] for symbol in due]
    return heights[front] <= min(sums)


def reachable_fronts(rows):
    """The list of all reachable fronts, or TooLarge if there might be too many."""
    check_product(rows)
    first = zeros(rows)
    met = {first: True}
    ahead = [first]
    while ahead:
        front = ahead.pop()
        for symbol in symbols_due(rows, front):
            behind = front_behind(rows, front, symbol)
            if behind not in met:
                met[behind] = True
                ahead.append(behind)
    return list(met)


def check_product(rows):
    """Raise TooLarge if the rows have too many fronts, reachable or not."""
    many = 1
    for row in rows:
        many = many * (len(row) + 1)
        if many > MOST_FRONTS:
            raise TooLarge()


def zeros(rows):
    """The front at which nothing is done."""
    return (0,) * len(rows)


def symbols_due(rows, front):
    """The ascending list of the symbols that are due at a front."""
    return sorted({row[done] for row, done in zip(rows, front) if done < len(row)})


def front_behind(rows, front, symbol):
    """The front to which a symbol leads from a front."""
    return tuple([done + 1 if done < len(row) and row[done] == symbol else done
                  for row, done in zip(rows, front)])
