"""Values that several tests hand in."""

from lesslater import errors

FORTY = 10 ** 40 - 1


def nested(levels):
    value = ()
    for _ in range(levels):
        value = (value,)
    return value


def no_integers():
    """Values of every kind that the document calls "any value", but for integers."""
    return [
        None, True, False,
        "", "1", "0", "a\n\tb ~", "x" * 2000,
        (), (1,), (1, 2), (1, 2, 3), ((1, 2), (3, 4)), nested(19), tuple(range(500)),
        [], [1], [1, 2], [[1], {}],
        {}, {"top": 1}, {1: 2}, {(1, 2): [3]},
        errors.PlanError(), errors.BadFraction(1), [errors.NoTask(0)],
    ]
