"""The errors of the package, each with the fields that say what was wrong."""


class RimError(ValueError):
    """What every error of the package is."""


def _settled(value):
    """A list as a tuple, so that a later change of the list does not reach the error."""
    return tuple(value) if isinstance(value, list) else value


class BadPins(RimError):
    """The number of pins is not a whole number of at least 0, or not one that is possible here."""

    def __init__(self, pins):
        super().__init__(f"pins {pins!r}")
        self.pins = pins


class BadPin(RimError):
    """This is no pin of the rim."""

    def __init__(self, pin):
        super().__init__(f"pin {pin!r}")
        self.pin = pin


class SamePin(RimError):
    """Two different pins are asked for, and both are this one."""

    def __init__(self, pin):
        super().__init__(f"pin {pin!r}")
        self.pin = pin


class BadGap(RimError):
    """This is no gap of the rim."""

    def __init__(self, gap):
        super().__init__(f"gap {gap!r}")
        self.gap = gap


class NoPair(RimError):
    """The rim has too few pins for a gap between two of them."""

    def __init__(self, pins):
        super().__init__(f"pins {pins!r}")
        self.pins = pins


class OddPin(RimError):
    """An odd number of ends is at this pin, so it cannot be dropped."""

    def __init__(self, pin):
        super().__init__(f"pin {pin!r}")
        self.pin = pin


class UnlikePins(RimError):
    """Two rims that must have the same number of pins have these."""

    def __init__(self, one, other):
        super().__init__(f"one {one!r}, other {other!r}")
        self.one = one
        self.other = other


class BadCord(RimError):
    """This entry, kept as it was passed, is not two different pins and a number of cords."""

    def __init__(self, entry):
        super().__init__(f"entry {entry!r}")
        self.entry = entry


class NotPart(RimError):
    """More cords are to be taken away between these pins than are there."""

    def __init__(self, a, b):
        super().__init__(f"a {a!r}, b {b!r}")
        self.a = a
        self.b = b


class BadNumber(RimError):
    """This is not a whole number that is great enough."""

    def __init__(self, number):
        super().__init__(f"number {number!r}")
        self.number = number


class BadTable(RimError):
    """The table breaks the form of a table at this place."""

    def __init__(self, row, column):
        super().__init__(f"row {row!r}, column {column!r}")
        self.row = row
        self.column = column


class NoLot(RimError):
    """The table asks for this number of half cords between these pins, so it belongs to no lot."""

    def __init__(self, a, b, twice):
        super().__init__(f"a {a!r}, b {b!r}, twice {twice!r}")
        self.a = a
        self.b = b
        self.twice = twice


class NoMove(RimError):
    """This, kept as it was passed, is no move that is allowed in the lot."""

    def __init__(self, move):
        super().__init__(f"move {move!r}")
        self.move = move


class OddEnds(RimError):
    """At these pins the numbers of ends differ by an odd number."""

    def __init__(self, pins):
        super().__init__(f"pins {pins!r}")
        self.pins = _settled(pins)


class Barred(RimError):
    """More is wished between these gaps than can pass there."""

    def __init__(self, first, last, held, wished):
        super().__init__(f"first {first!r}, last {last!r}, held {held!r}, wished {wished!r}")
        self.first = first
        self.last = last
        self.held = held
        self.wished = wished


class TooMany(RimError):
    """The number is greater than what is asked for here."""

    def __init__(self, number):
        super().__init__(f"number {number!r}")
        self.number = number


class BadWidth(RimError):
    """The width of this track is not a whole number of at least 1."""

    def __init__(self, track):
        super().__init__(f"track {track!r}")
        self.track = track


class BadTurn(RimError):
    """The turn of this joint is missing or is not a sequence of ends."""

    def __init__(self, joint):
        super().__init__(f"joint {joint!r}")
        self.joint = joint


class DoubleEnd(RimError):
    """This end stands in the turns for a second time."""

    def __init__(self, end):
        super().__init__(f"end {end!r}")
        self.end = end


class MissingEnd(RimError):
    """This end stands in no turn."""

    def __init__(self, end):
        super().__init__(f"end {end!r}")
        self.end = end


class LooseJoint(RimError):
    """This joint is not joined to any pin."""

    def __init__(self, joint):
        super().__init__(f"joint {joint!r}")
        self.joint = joint


class NotPlane(RimError):
    """The board has another number of lands than a plane one."""

    def __init__(self, found, due):
        super().__init__(f"found {found!r}, due {due!r}")
        self.found = found
        self.due = due


class BadItem(RimError):
    """This is no end and, where gaps are asked for too, no gap of the board."""

    def __init__(self, item):
        super().__init__(f"item {item!r}")
        self.item = item


class BadJoint(RimError):
    """This is no joint of the board."""

    def __init__(self, joint):
        super().__init__(f"joint {joint!r}")
        self.joint = joint


class BadTrack(RimError):
    """This is no track of the board."""

    def __init__(self, track):
        super().__init__(f"track {track!r}")
        self.track = track


class OddJoint(RimError):
    """An odd number of ends is at this inner joint, so the board is not even."""

    def __init__(self, joint):
        super().__init__(f"joint {joint!r}")
        self.joint = joint


class BadDeed(RimError):
    """What stands at this place, kept as it was passed, is no deed."""

    def __init__(self, place, deed):
        super().__init__(f"place {place!r}, deed {deed!r}")
        self.place = place
        self.deed = deed


class Refused(RimError):
    """The deed at this place raised an error, which is the cause of this one."""

    def __init__(self, place, deed):
        super().__init__(f"place {place!r}, deed {deed!r}")
        self.place = place
        self.deed = _settled(deed)


class BadWire(RimError):
    """This, kept as it was passed, is no wire of the board."""

    def __init__(self, wire):
        super().__init__(f"wire {wire!r}")
        self.wire = wire


class SharedLand(RimError):
    """These two gaps are in the same land."""

    def __init__(self, first, last):
        super().__init__(f"first {first!r}, last {last!r}")
        self.first = first
        self.last = last


class OddLand(RimError):
    """The ends in this land have an odd sum of widths."""

    def __init__(self, land):
        super().__init__(f"land {land!r}")
        self.land = land


class BadLanes(RimError):
    """This is no number of lanes that is possible here."""

    def __init__(self, number):
        super().__init__(f"number {number!r}")
        self.number = number


class BadLetter(RimError):
    """What stands at this place, kept as it was passed, is no letter that can stand there."""

    def __init__(self, place, letter):
        super().__init__(f"place {place!r}, letter {letter!r}")
        self.place = place
        self.letter = letter


class UnlikeLanes(RimError):
    """Two numbers of lanes that must be the same are these."""

    def __init__(self, one, other):
        super().__init__(f"one {one!r}, other {other!r}")
        self.one = one
        self.other = other


class BadPairing(RimError):
    """This lot does not have exactly one cord end at each pin."""

    def __init__(self, lot):
        super().__init__("not one cord end at each pin")
        self.lot = lot


class BadCap(RimError):
    """The cap of this pin is missing, too much, or not a whole number of at least 0."""

    def __init__(self, pin):
        super().__init__(f"pin {pin!r}")
        self.pin = pin


class BadPair(RimError):
    """This, kept as it was passed, is not a pair of different pins."""

    def __init__(self, pair):
        super().__init__(f"pair {pair!r}")
        self.pair = pair


class NoWishes(RimError):
    """A share of wishes is asked for, and there are none."""

    def __init__(self):
        super().__init__("no wishes")


class NothingToUndo(RimError):
    """There is no deed that can be taken back here."""

    def __init__(self):
        super().__init__("nothing to undo")


class NoteError(RimError):
    """This line of a note, counted from 1, does not have the told form."""

    def __init__(self, line):
        super().__init__(f"line {line!r}")
        self.line = line
