"""What few lanes in one ring can be made to cost, and certificates of that."""


def few_cost(ring, lanes):
    """The greatest cost of a set of at most that many doors, and such a set."""
    low = 0
    high = ring.cost()
    doors = [ring.doors[0]]
    while low < high:
        middle = (low + high + 1) // 2
        found = set_with_cost(ring, lanes, middle)
        if found is None:
            high = middle - 1
        else:
            doors = found
            low = ring.cost(doors=tuple(doors))
    return (low, doors)


def lanes_for(ring, cost):
    """The least number of lanes whose few-lane cost is at least the cost, or None."""
    if cost <= 0:
        return 1
    if cost > ring.cost():
        return None
    low = 1
    high = len(ring.doors)
    while low < high:
        middle = (low + high) // 2
        if set_with_cost(ring, middle, cost) is None:
            low = middle + 1
        else:
            high = middle
    return low


def leaps(ring, door, lanes, cost):
    """The list of the leaps from a door, for a number of lanes and a cost."""
    most = ring.whole() - cost - 1
    place = ring.doors.index(door)
    ahead = [*ring.doors[place + 1:], *ring.doors[:place]]
    found = [door]
    passed = 0
    while len(found) < lanes:
        within = passed
        while within < len(ahead) and ring.far(found[-1], ahead[within]) <= most:
            within += 1
        if within == passed:
            break
        found.append(ahead[within - 1])
        passed = within
    return found


def few_paper(ring, lanes):
    """The certificate of the few-lane cost."""
    cost, doors = few_cost(ring, lanes)
    return (cost, doors, [leaps(ring, door, lanes, cost) for door in ring.doors])


def check_few(ring, lanes, paper):
    """Tell whether a certificate of the few-lane cost is accepted."""
    cost, doors, rows = paper
    if not 1 <= len(doors) <= lanes or any([door not in ring.doors for door in doors]):
        return False
    if any([door >= other for door, other in zip(doors, doors[1:])]):
        return False
    if ring.cost(doors=tuple(doors)) != cost:
        return False
    if rows != [leaps(ring, door, lanes, cost) for door in ring.doors]:
        return False
    return all([way_back(ring, row) >= ring.whole() - cost for row in rows])


def way_back(ring, row):
    """The gap from the last entry of a list of leaps round to the first one."""
    return ring.whole() if len(row) == 1 else ring.far(row[-1], row[0])


def set_with_cost(ring, lanes, cost):
    """A set of at most that many doors with at least that cost, which is above 0, or None."""
    most = ring.whole() - cost
    for door in ring.doors:
        # The gaps of such a set are at most `most`, so one of its doors is less than that
        # behind the first door of the ring; the leaps from it are such a set, too.
        if ring.far(ring.doors[0], door) < most:
            row = leaps(ring, door, lanes, cost - 1)
            if way_back(ring, row) <= most:
                return sorted(row)
    return None
