"""The bounds within which the package decides."""

MAX_APART = 8
MAX_COURSES = 60
MAX_EDITS = 20
MAX_PAIRS = 1
MAX_TASKS = 5
MAX_WORKERS = 3
