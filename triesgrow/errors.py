"""The refusals. Each keeps its values, just as they are, in fields."""


class NoPattern(ValueError):
    """The text writes no pattern; at is the first sign that can't stand there."""

    def __init__(self, at):
        self.at = at


class NoMachine(ValueError):
    """The thing is no machine; part and number tell where it is none."""

    def __init__(self, part, number):
        self.part = part
        self.number = number


class NoText(ValueError):
    """The text writes no machine; row is the first row that can't stand there."""

    def __init__(self, row):
        self.row = row


class NoWord(ValueError):
    """The thing is no word; at is the first place where it is none."""

    def __init__(self, at):
        self.at = at


class NoRow(ValueError):
    """The desk has no such row."""


class NoRoom(IndexError):
    """The thing is no room of the machine."""

    def __init__(self, room):
        self.room = room


class NoNumber(IndexError):
    """The thing is no number that is wanted there."""

    def __init__(self, number):
        self.number = number


class NoSign(KeyError):
    """The thing is no sign."""

    def __init__(self, sign):
        self.sign = sign


class NoWay(LookupError):
    """The thing is no way; at is the first place where it is none."""

    def __init__(self, at):
        self.at = at


class NoName(LookupError):
    """Nothing stands by the name."""

    def __init__(self, name):
        self.name = name


class TooMany(OverflowError):
    """There are more than so many."""

    def __init__(self, many):
        self.many = many


class Doubling(ArithmeticError):
    """Ways double, as the pump shows."""

    def __init__(self, pump):
        self.pump = pump


class Growing(ArithmeticError):
    """Ways grow as the power."""

    def __init__(self, power):
        self.power = power


class Parted(ArithmeticError):
    """The word is read by just one of two machines."""

    def __init__(self, word):
        self.word = word


class Bare(RuntimeError):
    """There is nothing, or too little, to work on."""
