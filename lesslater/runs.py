"""Runs: what happens when, with given durations."""

from lesslater.errors import BadDurations
from lesslater.fractions import added, is_below, is_fraction, least_of


def durations_error(plan, value):
    """Return None if value is durations of the plan, else the index of the first wrong item, or -1."""
    if not isinstance(value, tuple) or len(value) != len(plan):
        return -1
    for number, item in enumerate(value):
        low, high = plan[number][1:]
        if not is_fraction(item) or is_below(item, low) or is_below(high, item):
            return number
    return None


def check_durations(plan, value):
    """Raise BadDurations if value is not durations of the plan."""
    index = durations_error(plan, value)
    if index is not None:
        raise BadDurations(index)


def taken(plan, busy, done):
    """Return the tuple of the tasks that begin, in this order, while some are busy and some are done."""
    tasks = plan.tasks
    ready = []
    for number in plan.order:
        if number not in busy and number not in done:
            if all([before in done for before in tasks[number][0]]):
                ready.append(number)
    return tuple(ready[:plan.workers - len(busy)])


def moments(plan, value):
    """Yield for each moment the triple of the moment, what ends then and what begins then."""
    check_durations(plan, value)
    moment = (0, 1)
    ended = ()
    done = []
    ends = {}
    while len(done) < len(plan):
        begun = taken(plan, list(ends), done)
        yield (moment, ended, begun)
        for number in begun:
            ends[number] = added(moment, value[number])
        moment = least_of(list(ends.values()))
        ended = tuple(sorted([number for number in ends if ends[number] == moment]))
        done.extend(ended)
        for number in ended:
            del ends[number]
    yield (moment, ended, ())


def times(plan, value):
    """Return for each task the pair of the moments at which it begins and ends."""
    begins = {}
    ends = {}
    for moment, ended, begun in moments(plan, value):
        for number in ended:
            ends[number] = moment
        for number in begun:
            begins[number] = moment
    return tuple([(begins[number], ends[number]) for number in range(len(plan))])


def whole_end(plan, value):
    """Return the moment at which all tasks have ended."""
    last = (0, 1)
    for moment, ended, begun in moments(plan, value):
        last = moment
    return last


def course_of(plan, value):
    """Return the tuple of the groups of tasks that end together, in the order of their ends."""
    return tuple([ended for moment, ended, begun in moments(plan, value) if len(ended) > 0])
