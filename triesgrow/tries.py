"""Tries told without going: all of a word, and those up to a way."""

from triesgrow.machines import turned
from triesgrow.numbering import ahead_of, way_at
from triesgrow.ways import beginnings_by, moved, moves_by, worth_one


def tries_all(machine, text):
    """How many tries a trier of the word has made that is gone to its end."""
    return sum(beginnings_by(machine, text))


def tries_to(machine, text, number):
    """How many tries a trier of the word has made when it comes to the way with this number."""
    way = way_at(machine, text, number)
    return len(way) + ahead_of(machine, text, way, tries_by(machine, text))


def tries_by(machine, text):
    """For 0, 1, 2 .. signs of the word, how many tries each room takes there: its own, and all that go on from it."""
    _, _, _, steps = turned(machine)
    moves = moves_by(steps, text, worth_one)
    vector = [1 for _ in range(machine[0])]
    tables = [vector]
    for sign in text[::-1]:
        vector = [1 + many for many in moved(vector, moves[sign])]
        tables.append(vector)
    return tables[::-1]
