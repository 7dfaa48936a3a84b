"""Desks: they answer lines, and work on a bench."""

from lesslater.courses import courses
from lesslater.errors import BadPlan, Full, Late, NoPair, NoTask, NothingToUndo, TooMany
from lesslater.lateness import latest
from lesslater.texts import fraction_of, fraction_text, numbers_of, plan_text, words_of

MAX_HISTORY = 10


def latest_answer(bench):
    """Return the answer to "latest"."""
    end, found = latest(bench.plan)
    return fraction_text(end) + (" near" if found is None else " met")


def steady_answer(bench):
    """Return the answer to "steady"."""
    return "yes" if bench.is_steady() else "no"


def courses_answer(bench):
    """Return the answer to "courses"."""
    return str(len(courses(bench.plan)))


def text_answer(bench):
    """Return the answer to "text"."""
    return plan_text(bench.plan)[:-1].replace("\n", "; ")


QUESTIONS = {"latest": latest_answer, "steady": steady_answer, "courses": courses_answer, "text": text_answer}


def day_of(words):
    """Return the day that words tell, None if they tell none."""
    if len(words) != 1:
        return None
    # A text has no fraction 0, but a day may be 0.
    return (0, 1) if words[0] == "0" else fraction_of(words[0])


def day_edited(bench, words):
    """Set the day that words tell and return the new version, None if they tell none."""
    day = day_of(words)
    return None if day is None else bench.set_day(day)


def numbers_edited(bench, word, numbers):
    """Do what a word and numbers tell and return the new version, None if they tell nothing."""
    if word == "list":
        return bench.set_order(numbers)
    if word == "workers" and len(numbers) == 1:
        return bench.set_workers(numbers[0])
    if word == "pair" and len(numbers) == 2:
        return bench.add_pair(numbers[0], numbers[1])
    if word == "part" and len(numbers) == 2:
        return bench.drop_pair(numbers[0], numbers[1])
    return None


def edited(bench, words):
    """Do the edit that the words of a line tell and return the new version, None if they tell none."""
    word, rest = words[0], words[1:]
    if word == "undo" and len(rest) == 0:
        return bench.undo()
    if word == "day":
        return day_edited(bench, rest)
    numbers = numbers_of(rest)
    return None if numbers is None else numbers_edited(bench, word, numbers)


def answer_of(bench, words):
    """Return the answer to the words of a line; errors of the bench go on."""
    if len(words) == 0:
        return "what"
    if len(words) == 1 and words[0] in QUESTIONS:
        question = QUESTIONS[words[0]]
        return question(bench)
    version = edited(bench, words)
    return "what" if version is None else f"ok {version}"


def safe_answer(bench, words):
    """Return the answer to the words of a line, also if the bench raises an error."""
    try:
        return answer_of(bench, words)
    except BadPlan:
        return "no BadPlan"
    except Full:
        return "no Full"
    except Late:
        return "no Late"
    except NoPair:
        return "no NoPair"
    except NoTask:
        return "no NoTask"
    except NothingToUndo:
        return "no NothingToUndo"
    except TooMany:
        return "no TooMany"


class Desk:
    """What was said about a bench, and answered."""

    def __init__(self, bench):
        self.bench = bench
        self.said = ()

    @property
    def history(self):
        """The tuple of the last pairs of a line and its answer."""
        return self.said

    def say(self, line):
        """Return the answer to a line."""
        told, answer = None, "what"
        if isinstance(line, str):
            told, answer = line, safe_answer(self.bench, words_of(line))
        self.said = (*self.said, (told, answer))[-MAX_HISTORY:]
        return answer
