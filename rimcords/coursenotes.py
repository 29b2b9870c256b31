"""Notes of courses."""

from rimcords.courses import NUMBERS, Course
from rimcords.notes import read_line, written


def format_course(course):
    """The course as a text: a line that says so, and a line for each deed."""
    return written([("course",)] + list(course.deeds))


def parse_course(text):
    """The course of a text."""
    lines = text.split("\n")
    read_line(lines, 0, {"course": 0})
    counts = dict(NUMBERS)
    return Course([read_line(lines, place, counts) for place in range(1, len(lines))])
