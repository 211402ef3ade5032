"""The error classes of the package.

The messages do not show the values: Python refuses to write out an integer
of very many digits, and any integer may be given as a seat or a number.
"""


class NoPerson(LookupError):
    """Nobody at the table has this number."""

    def __init__(self, person):
        LookupError.__init__(self, "there is no such person")
        self.person = person


class NoSeat(LookupError):
    """The table has no seat with this number."""

    def __init__(self, seat):
        LookupError.__init__(self, "there is no such seat")
        self.seat = seat


class NoNumber(LookupError):
    """Nothing that is counted has this number."""

    def __init__(self, number):
        LookupError.__init__(self, "nothing has this number")
        self.number = number


class NoDeed(LookupError):
    """There are not so many deeds."""

    def __init__(self, many):
        LookupError.__init__(self, "there are not so many deeds")
        self.many = many


class OtherPeople(ValueError):
    """The numbers of people differ; many is the second one."""

    def __init__(self, many):
        ValueError.__init__(self, "the numbers of people differ")
        self.many = many


class BadDeed(ValueError):
    """The item with the index at is no deed."""

    def __init__(self, at):
        ValueError.__init__(self, "an item is no deed")
        self.at = at


class BadText(ValueError):
    """Nothing is written as this text."""

    def __init__(self, text):
        ValueError.__init__(self, "nothing is written so")
        self.text = text


class BadLine(ValueError):
    """The line with the index at has none of the forms of a line."""

    def __init__(self, at):
        ValueError.__init__(self, "a line has none of the forms")
        self.at = at


class Empty(RuntimeError):
    """The person has too few coins."""

    def __init__(self, person):
        RuntimeError.__init__(self, "the person has too few coins")
        self.person = person


class Barred(RuntimeError):
    """One STATE does not lead to the other one; reason tells why."""

    def __init__(self, reason):
        RuntimeError.__init__(self, "one state does not lead to the other one")
        self.reason = reason


class Stops(RuntimeError):
    """The passes end; many is how many can be done."""

    def __init__(self, many):
        RuntimeError.__init__(self, "so many passes cannot be done")
        self.many = many


class Few(RuntimeError):
    """There are only two people."""

    # Without this, the constructor would take any values.
    def __init__(self):
        RuntimeError.__init__(self)


class TooMany(OverflowError):
    """There are more than may be gone through; many is how many."""

    def __init__(self, many):
        OverflowError.__init__(self, "there are too many")
        self.many = many


class Full(OverflowError):
    """Nobody else can sit down; many is the number of people who may."""

    def __init__(self, many):
        OverflowError.__init__(self, "the table is full")
        self.many = many
