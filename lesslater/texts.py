"""Plans as texts, and texts as plans."""

from lesslater.bounds import MAX_TASKS
from lesslater.errors import BadText
from lesslater.fractions import is_fraction
from lesslater.plans import Plan

DIGITS = "0123456789"
MAX_DIGITS = 20


def fraction_text(value):
    """Return a fraction as it is written."""
    top, bottom = value
    return str(top) if bottom == 1 else f"{top}/{bottom}"


def numbers_text(numbers):
    """Return the list of the words for some numbers."""
    return [str(number) for number in numbers]


def task_line(task):
    """Return the line of a task, without a line feed."""
    forerunners, low, high = task
    words = ["task", fraction_text(low), fraction_text(high)]
    if len(forerunners) > 0:
        words = [*words, "after", *numbers_text(forerunners)]
    return " ".join(words)


def plan_text(plan):
    """Return the text of a plan."""
    lines = [task_line(task) for task in plan.tasks]
    lines.append(" ".join(["list", *numbers_text(plan.order)]))
    lines.append(f"workers {plan.workers}")
    return "".join([line + "\n" for line in lines])


def words_of(line):
    """Return the list of what stands between the blanks of a line."""
    return [word for word in line.split(" ") if len(word) > 0]


def number_of(word):
    """Return the number that a word of one digit tells, None for another word."""
    if len(word) != 1 or word not in DIGITS:
        return None
    return int(word)


def numbers_of(words):
    """Return the tuple of the numbers that words of one digit tell, None if there is another word."""
    found = [number_of(word) for word in words]
    if any([number is None for number in found]):
        return None
    return tuple(found)


def is_long_number(word):
    """Return whether a word tells an integer above 0, without a nought ahead, of not too many digits."""
    if not 1 <= len(word) <= MAX_DIGITS or word[0] == "0":
        return False
    return all([sign in DIGITS for sign in word])


def fraction_of(word):
    """Return the fraction above 0 that a word tells, None if it tells none."""
    top, slash, bottom = word.partition("/")
    if not is_long_number(top):
        return None
    if slash == "":
        return (int(top), 1)
    # A fraction with the bottom 1 is written without it.
    if not is_long_number(bottom) or bottom == "1":
        return None
    found = (int(top), int(bottom))
    return found if is_fraction(found) else None


def read_forerunners(words):
    """Return the forerunners that the last words of a task's line tell, None if these are not right."""
    if len(words) == 0:
        return ()
    if len(words) == 1 or words[0] != "after":
        return None
    return numbers_of(words[1:])


def read_task(words):
    """Return the task that the words of a line tell, None if they are not right."""
    if len(words) < 3 or words[0] != "task":
        return None
    low, high = fraction_of(words[1]), fraction_of(words[2])
    forerunners = read_forerunners(words[3:])
    if low is None or high is None or forerunners is None:
        return None
    return (forerunners, low, high)


def read_order(words):
    """Return the order that the words of a line tell, None if they are not right."""
    if words[0] != "list":
        return None
    return numbers_of(words[1:])


def read_workers(words):
    """Return the number of workers that the words of a line tell, None if they are not right."""
    if len(words) != 2 or words[0] != "workers":
        return None
    return number_of(words[1])


def numbered_lines(text):
    """Return the list of the pairs of a line's number and its words, without lines that have none."""
    lines = [words_of(line) for line in text.split("\n")]
    return [(number, words) for number, words in enumerate(lines, start=1) if len(words) > 0]


def count_tasks(lines):
    """Return how many of the first lines must be tasks: those that say so, as many as there may be, or one."""
    many = 0
    while many < min(len(lines), MAX_TASKS) and lines[many][1][0] == "task":
        many += 1
    return max(many, 1)


def read_plan(value):
    """Return the plan of a text."""
    if not isinstance(value, str):
        raise BadText(0)
    lines = numbered_lines(value)
    many = count_tasks(lines)
    readers = [read_task] * many + [read_order, read_workers]
    parts = []
    for (number, words), reader in zip(lines, readers):
        part = reader(words)
        if part is None:
            raise BadText(number)
        parts.append(part)
    if len(lines) > len(readers):
        raise BadText(lines[len(readers)][0])
    if len(lines) < len(readers):
        raise BadText(-1)
    return Plan(tuple(parts[:many]), parts[many], parts[many + 1])
