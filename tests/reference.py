"""What the document says of runs and conditions, done once more in another way, to compare with."""

from fractions import Fraction


def pair_of(number):
    return (number.numerator, number.denominator)


def run(plan, durations):
    """Return the triples (moment, ended, begun) of a run."""
    tasks, order, workers = plan.tasks, plan.order, plan.workers
    lengths = [Fraction(*pair) for pair in durations]
    begin = {}
    rows = []
    moment = Fraction(0)
    while True:
        done = {number for number in begin if begin[number] + lengths[number] <= moment}
        ended = tuple(number for number in sorted(done) if begin[number] + lengths[number] == moment)
        begun = []
        while True:
            busy = [number for number in begin if number not in done]
            ready = [number for number in order if number not in begin and set(tasks[number][0]) <= done]
            if len(busy) >= workers or not ready:
                break
            begin[ready[0]] = moment
            begun.append(ready[0])
        rows.append((pair_of(moment), ended, tuple(begun)))
        if len(done) == len(tasks):
            return rows
        moment = min(begin[number] + lengths[number] for number in begin if number not in done)


def running_behind(plan, groups):
    """Return the set of tasks that run behind some groups, None if these are no beginning."""
    done, busy = set(), set()

    def fill():
        for number in plan.order:
            ready = set(plan.tasks[number][0]) <= done
            if ready and number not in done | busy and len(busy) < plan.workers:
                busy.add(number)

    fill()
    for group in groups:
        if not group or not set(group) <= busy or list(group) != sorted(set(group)):
            return None
        busy -= set(group)
        done |= set(group)
        fill()
    return busy


def is_met(condition, durations):
    """Return whether durations meet a condition."""
    factors, constant, kind = condition
    total = Fraction(*constant)
    for factor, pair in zip(factors, durations, strict=True):
        total += factor * Fraction(*pair)
    return {">=": total >= 0, ">": total > 0, "=": total == 0}[kind]


def are_met(conditions, durations):
    """Return whether durations meet all conditions."""
    return all(is_met(condition, durations) for condition in conditions)


def scaled(row):
    """Return a row, with an equal one for each that says the same but for a factor above 0."""
    factors, constant, is_strict = row
    size = next((abs(factor) for factor in factors if factor), None)
    if size is None:
        return row
    return (tuple(factor / size for factor in factors), constant / size, is_strict)


def strongest(rows):
    """Return the rows without those that another one with the same factors says, too."""
    best = {}
    for factors, constant, is_strict in map(scaled, rows):
        held = best.get(factors)
        if held is None or (constant, not is_strict) < (held[0], not held[1]):
            best[factors] = (constant, is_strict)
    return [(factors, *rest) for factors, rest in best.items()]


def mixed(one, other, at):
    """Return the sum of two rows, each times a factor above 0, in which the factor at an index is 0."""
    left, right = abs(other[0][at]), abs(one[0][at])
    factors = tuple(left * mine + right * yours for mine, yours in zip(one[0], other[0]))
    return (factors, left * one[1] + right * other[1], one[2] or other[2])


def can_be_met(conditions, many):
    """Return whether any numbers meet all conditions: each is eliminated in turn (Fourier and Motzkin)."""
    rows = []
    for factors, constant, kind in conditions:
        row = (tuple(map(Fraction, factors)), Fraction(*constant), kind == ">")
        rows.append(row)
        if kind == "=":
            rows.append((tuple(-factor for factor in row[0]), -row[1], False))
    for at in range(many):
        above = [row for row in rows if row[0][at] > 0]
        below = [row for row in rows if row[0][at] < 0]
        rest = [row for row in rows if row[0][at] == 0]
        rows = strongest(rest + [mixed(one, other, at) for one in above for other in below])
    return all(constant > 0 or (constant == 0 and not is_strict) for _, constant, is_strict in rows)
