"""Schedules: what they execute of runs, and how to leave out idle beats."""

from foreworth.errors import Incomplete


def prefixes(runs, schedule):
    """The list with, for each run, how much of it the schedule executes."""
    return [prefix(run, schedule) for run in runs]


def prefix(run, schedule):
    """The length of the longest beginning of a run that the schedule contains."""
    done = 0
    for node in schedule:
        if done < len(run) and run[done] == node:
            done += 1
    return done


def is_complete(runs, schedule):
    """Tell whether the schedule contains each run."""
    return prefixes(runs, schedule) == [len(run) for run in runs]


def thin(runs, schedule):
    """The beats of a complete schedule without those that can be dropped one by one."""
    if not is_complete(runs, schedule):
        raise Incomplete()
    latest = [latest_places(run, schedule) for run in runs]
    done = [0] * len(runs)
    kept = []
    for place, node in enumerate(schedule):
        moving = [lane for lane, run in enumerate(runs) if due(run, done[lane]) == node]
        # Only a lane that the beat moves can miss it, and it does so exactly if
        # the rest of its run cannot begin later.
        if any([latest[lane][done[lane]] == place for lane in moving]):
            kept.append(node)
            for lane in moving:
                done[lane] += 1
    return kept


def due(run, done):
    """The node that comes next in a run, or None behind its end."""
    return run[done] if done < len(run) else None


def latest_places(run, schedule):
    """The list with, for each node of a run, the last beat at which it can be executed.

    The rest of the run behind the node is executed by the beats behind that one.
    """
    places = []
    for place in reversed(range(len(schedule))):
        if len(places) < len(run) and schedule[place] == run[-1 - len(places)]:
            places.append(place)
    return places[::-1]
