"""Values that several tests hand in."""

import itertools
import random

from lesslater import errors
from lesslater.benches import Bench
from lesslater.desks import Desk
from lesslater.fractions import fraction
from lesslater.plans import Plan
from lesslater.walkers import Walker

FORTY = 10 ** 40 - 1

# The document's own values.
T = (
    ((), (1, 1), (3, 1)), ((), (2, 1), (2, 1)), ((0,), (2, 1), (2, 1)), ((0,), (2, 1), (2, 1)), ((), (5, 1), (5, 1)),
)
P = Plan(T, (0, 1, 2, 3, 4), 2)
Q = P.with_order((0, 1, 4, 2, 3))


def nested(levels):
    value = ()
    for _ in range(levels):
        value = (value,)
    return value


def no_integers():
    """Values of every kind that the document calls "any value", but for integers."""
    return [
        None, True, False,
        "", "1", "0", "a\n\tb ~", "x" * 2000,
        (), (1,), (1, 2), (1, 2, 3), ((1, 2), (3, 4)), nested(19), tuple(range(500)),
        [], [1], [1, 2], [[1], {}],
        {}, {"top": 1}, {1: 2}, {(1, 2): [3]},
        errors.PlanError(), errors.BadFraction(1), [errors.NoTask(0)],
        P, [P], (P, Q), {0: P}, Walker(P), [Bench(P, (9, 1))], (Desk(Bench(P, (9, 1))), 0),
    ]


def any_values():
    """Values of every kind that the document calls "any value"."""
    return no_integers() + [0, 1, -1, 2, 5, 6, FORTY, -FORTY]


def replaced(value, at, item):
    """Return a tuple with another item at an index."""
    return value[:at] + (item,) + value[at + 1:]


def plan_of(bounds, pairs=(), order=None, workers=2):
    """Return a plan of bounds (low, high), of integers or fractions, and of pairs (before, behind)."""
    def as_fraction(number):
        return number if isinstance(number, tuple) else (number, 1)

    tasks = tuple(
        (tuple(sorted(before for before, behind in pairs if behind == number)), as_fraction(low), as_fraction(high))
        for number, (low, high) in enumerate(bounds)
    )
    return Plan(tasks, tuple(range(len(bounds))) if order is None else order, workers)


def some_plans(seed, count, most=5):
    """Return plans of all shapes, always the same for a seed."""
    chance = random.Random(seed)
    plans = []
    for _ in range(count):
        many = chance.randint(1, most)
        places = chance.sample(range(many), many)
        density = chance.choice((0, 0.2, 0.5))
        pairs = [
            (before, behind) for before in range(many) for behind in range(many)
            if places[before] < places[behind] and chance.random() < density
        ]
        bounds = []
        for _ in range(many):
            bottom = chance.choice((1, 1, 2, 3))
            low = chance.randint(1, 6)
            high = low + chance.choice((0, 0, 1, 2, 4))
            bounds.append((fraction(low, bottom), fraction(high, bottom)))
        plans.append(plan_of(bounds, pairs, tuple(chance.sample(range(many), many)), chance.randint(1, 3)))
    return plans


def between(low, high, part, parts):
    """Return the fraction that stands so many parts on the way from low to high."""
    top = low[0] * high[1] * (parts - part) + high[0] * low[1] * part
    return fraction(top, low[1] * high[1] * parts)


def grid(plan, parts):
    """Return all durations of a plan in which each is some parts on the way from its low to its high."""
    choices = [
        list(dict.fromkeys(between(low, high, part, parts) for part in range(parts + 1)))
        for _, low, high in plan.tasks
    ]
    return list(itertools.product(*choices))


def some_durations(plan, seed, count):
    """Return durations of a plan, always the same for a seed; many of them have sums in common."""
    chance = random.Random(seed)
    found = []
    for _ in range(count):
        row = []
        for _, low, high in plan.tasks:
            parts = chance.choice((1, 2, 4, 7))
            row.append(between(low, high, chance.randint(0, parts), parts))
        found.append(tuple(row))
    return found


# As many courses as there may be, and one more; LOOSE_8 has just 8 pairs apart, and too many courses, too.
SIXTY = plan_of([(4, 4), (3, 6), (2, 4), (1, 4), (1, 1)], workers=3)
SIXTY_ONE = plan_of([(3, 5), (3, 6), (3, 5), (3, 3), (1, 3)], workers=3)
LOOSE = plan_of([(1, 9)] * 5, workers=3)
LOOSE_8 = plan_of([(1, 9)] * 5, [(2, 3), (2, 4)], workers=3)
# As many courses once more, and one more, both with just 8 pairs apart: to decide the first one took longest of all.
WIDE = plan_of([(1, 6), (3, 6), (6, (27, 4)), (2, 40), (2, 40)], [(0, 3), (1, 4)], workers=3)
WIDE_ONE = WIDE.with_task(2, ((), (6, 1), (7, 1)))
# The plan of [10] in words, whose latest end is not met.
NEAR = plan_of([(1, 3), (2, 2), (5, 5), (5, 5), (6, 6)], [(0, 2), (1, 3), (1, 4)], (0, 1, 3, 4, 2))


def renumbered(plan, names):
    """Return the plan in which each task has another number, told by its number in names."""
    bounds = [plan.tasks[names.index(number)][1:] for number in range(len(plan))]
    pairs = [(names[before], names[behind]) for before, behind in plan.pairs()]
    return plan_of(bounds, pairs, tuple(names[number] for number in plan.order), plan.workers)


def stretched(plan, top, bottom=1):
    """Return the plan with all bounds top / bottom times as long."""
    tasks = tuple(
        (before, fraction(low[0] * top, low[1] * bottom), fraction(high[0] * top, high[1] * bottom))
        for before, low, high in plan.tasks
    )
    return Plan(tasks, plan.order, plan.workers)


def jumpy_plans(seed, count):
    """Return plans like P and NEAR, of which many are not steady, always the same for a seed."""
    chance = random.Random(seed)
    plans = []
    for _ in range(count):
        base = chance.choice((P, NEAR))
        wide = chance.choice(((0, 0, 1, 2), (0, 1, 2), (1, 2, 3), (0, 2, 4)))
        lows = [chance.randint(1, 6) for _ in range(5)]
        plan = plan_of([(low, low + chance.choice(wide)) for low in lows], base.pairs(), base.order)
        plans.append(renumbered(plan, chance.sample(range(5), 5)))
    return plans


def parting_plans(seed, count):
    """Return plans in which two or more tasks wait for one of the first two, always the same for a seed."""
    chance = random.Random(seed)
    plans = []
    for _ in range(count):
        wide = chance.choice(((0, 0, 1, 2), (0, 1, 2), (1, 2, 3), (0, 2, 4)))
        bottom = chance.choice((1, 1, 2, 3))
        bounds = []
        for _ in range(5):
            low = chance.randint(1, 7)
            bounds.append((fraction(low, bottom), fraction(low + chance.choice(wide), bottom)))
        others = [pair for pair in ((1, 4), (1, 2), (2, 4), (3, 4)) if chance.random() < 0.3]
        order = [0, 1, *chance.sample((2, 3, 4), 3)]
        plan = plan_of(bounds, [(0, 2), (0, 3), *others], tuple(order))
        plans.append(renumbered(plan, chance.sample(range(5), 5)))
    return plans


def is_of_tuples(value):
    """Return whether a value is made of tuples, integers, strings and None alone."""
    if type(value) is tuple:
        return all(map(is_of_tuples, value))
    return value is None or type(value) in (int, str)
