"""Workers that take tasks from a list, decided for all durations within bounds."""
