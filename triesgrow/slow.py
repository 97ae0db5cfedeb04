"""What makes the trier slow: words that have more and more beginnings, and are not read."""

from triesgrow.errors import NoSign, TooMany
from triesgrow.kinds import WORD_MOST, look_at_number
from triesgrow.machines import beginnings, look_at, signs_of
from triesgrow.pumps import TIMES_MOST, laid, pump_of

LETTERS = "abcdefghijklmnopqrstuvwxyz"


def stopper(machine):
    """The first sign, as letters go, that no step has."""
    look_at(machine)
    signs = signs_of(machine)
    for sign in LETTERS:
        if sign not in signs:
            return sign
    raise NoSign(None)


def slow_pump(machine):
    """A pump of the beginnings' machine; None where its ways never grow."""
    return pump_of(beginnings(machine))


def slow_word(machine, many=1):
    """That pump laid so many times, the stopper behind it; None where there is no such pump."""
    look_at(machine)
    look_at_number(many, 0, TIMES_MOST)
    sign = stopper(machine)
    pump = slow_pump(machine)
    if pump is None:
        return None
    word = laid(pump, many) + sign
    if len(word) > WORD_MOST:
        raise TooMany(WORD_MOST)
    return word
