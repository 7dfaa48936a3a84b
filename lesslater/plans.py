"""Plans: tasks with their forerunners and bounds, the list from which they are taken, and the workers."""

from lesslater.bounds import MAX_TASKS, MAX_WORKERS
from lesslater.errors import BadPlan, NoPair, NoTask
from lesslater.fractions import is_below, is_fraction, is_whole_number


def is_number(value, many):
    """Return whether value is the number of one of so many tasks."""
    return is_whole_number(value) and 0 <= value < many


def is_ascending(value, many):
    """Return whether value is an ascending tuple of numbers of so many tasks."""
    if not isinstance(value, tuple) or not all([is_number(item, many) for item in value]):
        return False
    return all([one < other for one, other in zip(value, value[1:])])


def wrong_word(task, number, many):
    """Return what is wrong with the task of a number among so many tasks, None if nothing is."""
    if not isinstance(task, tuple) or len(task) != 3:
        return "task"
    forerunners, low, high = task
    if not is_ascending(forerunners, many) or number in forerunners:
        return "forerunners"
    if not is_fraction(low) or low[0] <= 0:
        return "low"
    if not is_fraction(high) or is_below(high, low):
        return "high"
    return None


def all_ahead(tasks, number):
    """Return the numbers of all tasks that have to be done ahead of one, along forerunners."""
    found = []
    waiting = list(tasks[number][0])
    while waiting:
        before = waiting.pop()
        if before not in found:
            found.append(before)
            waiting.extend(tasks[before][0])
    return found


def check_tasks(tasks):
    """Raise BadPlan if tasks are not the tasks of a plan."""
    if not isinstance(tasks, tuple) or not 1 <= len(tasks) <= MAX_TASKS:
        raise BadPlan(None, "tasks")
    for number, task in enumerate(tasks):
        word = wrong_word(task, number, len(tasks))
        if word is not None:
            raise BadPlan(number, word)
    if any([number in all_ahead(tasks, number) for number in range(len(tasks))]):
        raise BadPlan(None, "ring")


def check_order(order, many):
    """Raise BadPlan if order is not the list of so many tasks."""
    # What is no number must be found ahead of sorting: not all values can be compared.
    if not isinstance(order, tuple) or not all([is_number(item, many) for item in order]):
        raise BadPlan(None, "order")
    if sorted(order) != list(range(many)):
        raise BadPlan(None, "order")


def check_workers(workers):
    """Raise BadPlan if workers is not a number of workers."""
    if not is_whole_number(workers) or not 1 <= workers <= MAX_WORKERS:
        raise BadPlan(None, "workers")


class Plan:
    """Tasks, the list from which they are taken, and the number of workers; it never changes."""

    def __init__(self, tasks, order, workers):
        check_tasks(tasks)
        check_order(order, len(tasks))
        check_workers(workers)
        self.held_tasks = tasks
        self.held_order = order
        self.held_workers = workers

    @property
    def tasks(self):
        """The tuple of the tasks."""
        return self.held_tasks

    @property
    def order(self):
        """The tuple of the tasks' numbers in the order in which they are taken."""
        return self.held_order

    @property
    def workers(self):
        """How many workers there are."""
        return self.held_workers

    def __getitem__(self, at):
        self.check_number(at)
        return self.held_tasks[at]

    def __iter__(self):
        raise TypeError("a plan is not walked over")

    def __len__(self):
        return len(self.held_tasks)

    def __eq__(self, other):
        return (
            isinstance(other, Plan) and self.held_tasks == other.held_tasks
            and self.held_order == other.held_order and self.held_workers == other.held_workers
        )

    def __str__(self):
        return f"{len(self.held_tasks)} tasks, {self.held_workers} workers"

    def check_number(self, number):
        """Raise NoTask if number is not the number of a task."""
        if not is_number(number, len(self.held_tasks)):
            raise NoTask(number)

    def with_task(self, number, task):
        """Return the plan with another task in the place of one."""
        self.check_number(number)
        tasks = self.held_tasks[:number] + (task,) + self.held_tasks[number + 1:]
        return Plan(tasks, self.held_order, self.held_workers)

    def with_order(self, order):
        """Return the plan with another list."""
        return Plan(self.held_tasks, order, self.held_workers)

    def with_workers(self, workers):
        """Return the plan with another number of workers."""
        return Plan(self.held_tasks, self.held_order, workers)

    def with_forerunners(self, number, forerunners):
        """Return the plan with other forerunners of a task."""
        low, high = self.held_tasks[number][1:]
        return self.with_task(number, (forerunners, low, high))

    def pairs(self):
        """Return the ascending tuple of the pairs of a forerunner and the task behind it."""
        found = []
        for behind, task in enumerate(self.held_tasks):
            found.extend([(before, behind) for before in task[0]])
        return tuple(sorted(found))

    def with_pair(self, before, behind):
        """Return the plan in which before is a forerunner of behind."""
        self.check_number(before)
        self.check_number(behind)
        if before == behind:
            raise BadPlan(None, "ring")
        others = [number for number in self.held_tasks[behind][0] if number != before]
        return self.with_forerunners(behind, tuple(sorted([*others, before])))

    def without_pair(self, before, behind):
        """Return the plan in which before is no forerunner of behind."""
        self.check_number(before)
        self.check_number(behind)
        forerunners = self.held_tasks[behind][0]
        if before not in forerunners:
            raise NoPair(before, behind)
        return self.with_forerunners(behind, tuple([number for number in forerunners if number != before]))

    def apart(self):
        """Return the ascending tuple of the pairs of tasks of which neither has to be done ahead of the other one."""
        many = len(self.held_tasks)
        ahead = [all_ahead(self.held_tasks, number) for number in range(many)]
        return tuple([
            (one, other) for one in range(many) for other in range(one + 1, many)
            if one not in ahead[other] and other not in ahead[one]
        ])
