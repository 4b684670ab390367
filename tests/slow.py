"""Slow answers to compare the program with; they know nothing of rings and fronts."""

from heapq import heappop, heappush

from foreworth.graph import END


def cheapest_rows(prices, rows):
    """The least sum of prices of a list of symbols that contains each row.

    It looks at all lists, the cheapest ones first, and tells them apart by how much of
    each row they contain.
    """
    last = tuple(len(row) for row in rows)
    ahead = [(0, (0,) * len(rows))]
    done = set()
    while ahead:
        bill, front = heappop(ahead)
        if front == last:
            return bill
        if front in done:
            continue
        done.add(front)
        for symbol, price in enumerate(prices):
            following = tuple(
                place + (place < len(row) and row[place] == symbol)
                for row, place in zip(rows, front))
            if following != front:
                heappush(ahead, (bill + price, following))
    return None


def cheapest_bill(graph, runs):
    """The least bill of a complete schedule of a team."""
    distinct = sorted({tuple(run) for run in runs})
    return cheapest_rows([graph.price(node) for node in range(graph.size)], distinct)


def all_paths(graph, first, last, avoid):
    """All paths without repeated nodes, found by going on from each node."""
    found = []
    ahead = [[first]] if first not in avoid else []
    while ahead:
        path = ahead.pop()
        if path[-1] == last or (last == END and END in graph.successors(path[-1])):
            found.append(path)
        for target in graph.successors(path[-1]):
            if target != END and target not in path and target not in avoid:
                ahead.append([*path, target])
    return found


def contains(beats, row):
    """Whether the row can be obtained from the beats by leaving some out."""
    left = iter(beats)
    return all(symbol in left for symbol in row)
