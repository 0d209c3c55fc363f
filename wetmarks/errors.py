"""What the program refuses: one class for each kind, each straight under WetError."""


class WetError(ArithmeticError):
    """Any refusal."""


class BadDrum(WetError):
    """No drum, or no number of one; part tells which argument is amiss."""

    def __init__(self, part):
        self.part = part


class NoTurn(WetError):
    """No turn of a drum; at is what was handed in."""

    def __init__(self, at):
        self.at = at


class NoCell(WetError):
    """No cell, no length or no sector; at is what was handed in."""

    def __init__(self, at):
        self.at = at


class NoPlace(WetError):
    """No place of a turn; at is what was handed in."""

    def __init__(self, at):
        self.at = at


class BadShop(WetError):
    """No shop; part tells which argument is amiss, at where in it."""

    def __init__(self, part, at):
        self.part = part
        self.at = at


class BadPlies(WetError):
    """No plies; at is the place of the first thing amiss."""

    def __init__(self, at):
        self.at = at


class NoFace(WetError):
    """No face; face is what was handed in."""

    def __init__(self, face):
        self.face = face


class NoBeats(WetError):
    """No number of beats; beats is what was handed in."""

    def __init__(self, beats):
        self.beats = beats


class BadRow(WetError):
    """No row of deeds; at is the place of the first thing amiss."""

    def __init__(self, at):
        self.at = at


class BadSpot(WetError):
    """No spot; part tells what of it is amiss."""

    def __init__(self, part):
        self.part = part


class BadMenu(WetError):
    """No menu; at is the place of the first thing amiss."""

    def __init__(self, at):
        self.at = at


class BadMarks(WetError):
    """No list of faces or of sightings; at is the place of the first thing amiss."""

    def __init__(self, at):
        self.at = at


class TooMany(WetError):
    """More than the program takes; many is how many it takes."""

    def __init__(self, many):
        self.many = many
