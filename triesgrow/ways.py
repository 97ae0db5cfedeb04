"""Ways and beginnings of words: how many there are, where they end, what they are worth."""

from triesgrow.kinds import look_at_room, look_at_word
from triesgrow.machines import look_at, steps_by


def ways(machine, text, first=None, last=None):
    """How many ways the word has, with one room in the firsts' or the lasts' stead where it is told."""
    look_at(machine)
    look_at_word(text)
    many, firsts, lasts, _ = machine
    for room in (first, last):
        if room is not None:
            look_at_room(room, many)
    ahead = vectors(machine, text, firsts if first is None else [first], worth_one)
    return share(ahead[-1], lasts if last is None else [last])


def counts(machine, text):
    """For each room how many beginnings of the whole word end there."""
    look_at(machine)
    look_at_word(text)
    return vectors(machine, text, machine[1], worth_one)[-1]


def beginnings_by(machine, text):
    """How many beginnings of 0, 1, 2 .. signs of the word there are."""
    look_at(machine)
    look_at_word(text)
    return [sum(vector) for vector in vectors(machine, text, machine[1], worth_one)]


def reached(machine, text):
    """The rooms in which beginnings of the whole word end, rising."""
    return rooms_with(counts(machine, text))


def weighed(machine, text, worth):
    """What all ways of the word are worth together, worth telling what a step is worth."""
    look_at(machine)
    look_at_word(text)
    return share(vectors(machine, text, machine[1], worth)[-1], machine[2])


def worth_one(room, sign, other):
    """What each step is worth where ways are only counted."""
    return 1


def share(vector, rooms):
    """What the vector has at these rooms together."""
    return sum([vector[room] for room in rooms])


def rooms_with(vector):
    """The rooms at which the vector has something, rising."""
    return [room for room, many in enumerate(vector) if many > 0]


def vectors(machine, text, rooms, worth):
    """For 0, 1, 2 .. signs of the word, what the beginnings from these rooms that end in each room are worth."""
    many, _, _, steps = machine
    moves = moves_by(steps, text, worth)
    vector = one_at(rooms, many)
    told = [vector]
    for sign in text:
        vector = moved(vector, moves[sign])
        told.append(vector)
    return told


def one_at(rooms, many):
    """The vector of so many rooms with 1 at these rooms, else 0."""
    return [1 if room in rooms else 0 for room in range(many)]


def moves_by(steps, signs, worth):
    """For each of the signs the steps by it, each as (room, other, what it is worth)."""
    moves = {}
    for sign, led in steps_by(steps, signs).items():
        moves[sign] = [(room, other, worth(room, sign, other)) for room, _, other in led]
    return moves


def moved(vector, moves):
    """What the vector becomes by these moves."""
    after = [0 for _ in vector]
    for room, other, worth in moves:
        after[other] += vector[room] * worth
    return after
