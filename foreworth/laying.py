"""Least bills in a ring: stays that are laid on a line of numbers."""

from foreworth.errors import BadStay


def union_price(ring, stays, start):
    """The price of the union of the stays from a start."""
    check_stays(ring, stays)
    return price_of_union(ring, stays, start)


def union_beats(ring, stays, start):
    """The positions of the union of the stays from a start, in order."""
    check_stays(ring, stays)
    beats = []
    for first, behind in spans(ring, stays, start):
        beats.extend([number % ring.size for number in range(first, behind)])
    return beats


def least_laying(ring, stays):
    """The least price of a union, and the least door of a stay from which it is laid."""
    check_stays(ring, stays)
    doors = sorted({door for door, _ in stays})
    if not doors:
        return (0, None)
    return min([(price_of_union(ring, stays, door), door) for door in doors])


def check_stays(ring, stays):
    """Raise BadStay for the first stay that is not one."""
    for place, (door, length) in enumerate(stays):
        if door not in ring.doors or length < 1:
            raise BadStay(place)


def price_of_union(ring, stays, start):
    """The price of the union of stays that are in order."""
    total = 0
    for first, behind in spans(ring, stays, start):
        rounds = (behind - first) // ring.size
        total += rounds * ring.whole() + ring.far(first % ring.size, behind % ring.size)
    return total


def spans(ring, stays, start):
    """The union of the stays, as the list of its parts `(first, behind)` on the line.

    The parts are apart from one another and stand in ascending order.
    """
    laid = []
    for door, length in stays:
        first = start + (door - start) % ring.size
        laid.append((first, first + length))
    joined = []
    for first, behind in sorted(laid):
        if joined and first <= joined[-1][1]:
            joined[-1] = (joined[-1][0], max(behind, joined[-1][1]))
        else:
            joined.append((first, behind))
    return joined
