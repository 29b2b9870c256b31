"""Notes: lines of words and numbers, as which lots, boards, courses and rows are written down."""

from rimcords.errors import NoteError


def written(lines):
    """Lines, each of them a sequence of words and numbers, as one text."""
    return "\n".join([" ".join([str(word) for word in words]) for words in lines])


def is_number(word):
    """Whether the word is a number as it is written in notes."""
    digits = word[1:] if word.startswith("-") else word
    if not digits.isascii() or not digits.isdigit():
        return False
    return word == "0" or not digits.startswith("0")


def numbers_of(words, place):
    """The words as numbers; the place is that of their line."""
    for word in words:
        if not is_number(word):
            raise NoteError(place + 1)
    return tuple([int(word) for word in words])


def words_at(lines, place):
    """The words of the line at the place, counted from 0."""
    if place >= len(lines):
        raise NoteError(place + 1)
    return lines[place].split(" ")


def read_line(lines, place, counts):
    """The word and the numbers in the line at a place.

    `counts` tells for each word that may stand there how many numbers stand behind it, with None for any number.
    """
    words = words_at(lines, place)
    if words[0] not in counts:
        raise NoteError(place + 1)
    numbers = numbers_of(words[1:], place)
    due = counts[words[0]]
    if due is not None and len(numbers) != due:
        raise NoteError(place + 1)
    return (words[0],) + numbers


def read_numbers(lines, place, due):
    """The numbers in the line at a place, which holds just so many of them and no word."""
    numbers = numbers_of(words_at(lines, place), place)
    if len(numbers) != due:
        raise NoteError(place + 1)
    return numbers
