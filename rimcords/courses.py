"""Courses: deeds one after the other, for lots and for boards alike."""

from rimcords.errors import BadDeed, Refused, RimError
from rimcords.kinds import is_sequence, is_whole

# How many numbers stand behind the word of a deed.
NUMBERS = {"pin": 1, "track": 2, "merge": 1, "drop": 1, "turn": 1, "mirror": 0}


class Course:
    """A sequence of deeds; it never changes."""

    def __init__(self, deeds=()):
        for place, deed in enumerate(deeds):
            if not is_deed(deed):
                raise BadDeed(place, deed)
        self.deeds = tuple([tuple(deed) for deed in deeds])

    def __call__(self, start):
        """What is left of the lot or board `start` after all deeds."""
        stage = start
        for place, deed in enumerate(self.deeds):
            stage = stage_behind(stage, place, deed)
        return stage

    def stages(self, start):
        """Yields the start and then what stands after each deed."""
        stage = start
        yield stage
        for place, deed in enumerate(self.deeds):
            stage = stage_behind(stage, place, deed)
            yield stage

    def __add__(self, other):
        return Course(self.deeds + other.deeds)

    def __len__(self):
        return len(self.deeds)

    def __iter__(self):
        return iter(self.deeds)

    def __eq__(self, other):
        return isinstance(other, Course) and self.deeds == other.deeds


def is_deed(deed):
    if not is_sequence(deed) or len(deed) == 0 or not isinstance(deed[0], str):
        return False
    if deed[0] not in NUMBERS or len(deed) != 1 + NUMBERS[deed[0]]:
        return False
    for number in deed[1:]:
        if not is_whole(number):
            return False
    return True


def stage_behind(stage, place, deed):
    """What the deed leaves of the stage; an error of the deed is told with its place."""
    try:
        return done(stage, deed)
    except RimError as error:
        raise Refused(place, deed) from error


def done(stage, deed):
    """The lot or board that the deed leaves of another one."""
    word = deed[0]
    if word == "pin":
        return stage.opened(deed[1])
    if word == "track":
        return stage.linked(deed[1], deed[2])
    if word == "merge":
        return stage.merged(deed[1])
    if word == "drop":
        return stage.dropped(deed[1])
    if word == "turn":
        return stage.turned(deed[1])
    return stage.mirrored()
