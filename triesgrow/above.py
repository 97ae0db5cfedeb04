"""Ways bounded from above: the told table, and the greatest number of ways."""

from triesgrow.errors import Doubling, Growing, TooMany
from triesgrow.growth import greatest_rank, ranks
from triesgrow.kinds import look_at_number
from triesgrow.machines import look_at
from triesgrow.pumps import pump_of
from triesgrow.tables import begin_and_moves, shares_of
from triesgrow.ways import moved, share

VECTORS_MOST = 4000
GREATEST_MOST = 2000


def table_of(machine, most=400):
    """The table with the ranks that are told, and the least parts."""
    look_at(machine)
    look_at_number(most, 1, VECTORS_MOST)
    told = ranks_unless_doubling(machine)
    parts = [[] for _ in range(greatest_rank(told) + 1)]
    for vector in sorted(list(vectors_met(machine, told, most))):
        rank, _ = shares_of(vector, told)[0]
        parts[rank].append(list(vector))
    return told, parts


def greatest(machine):
    """The greatest number of ways that any word has, and the shortest word that has so many, the first such one."""
    told = ranks_unless_doubling(machine)
    power = greatest_rank(told)
    if power > 0:
        raise Growing(power)
    met = vectors_met(machine, told, GREATEST_MOST)
    most = 0
    word = None
    for vector in met:
        many = share(vector, machine[2])
        if many > most:
            most = many
            word = vector
    return most, None if word is None else text_to(word, met)


def ranks_unless_doubling(machine):
    """The ranks of the machine's rooms; refused, with Doubling, where ways double."""
    told = ranks(machine)
    if told is None:
        raise Doubling(pump_of(machine))
    return told


def vectors_met(machine, told, most):
    """The vectors of the told table as they come, each with the one ahead of it and the sign between, or None.

    The begin's shares have None. It is refused, with TooMany, where there are more than the most.
    """
    begin, moves = begin_and_moves(machine)
    met = {}
    queue = []
    meet(begin, None, told, met, queue, most)
    at = 0
    while at < len(queue):
        for sign, led in moves:
            meet(moved(queue[at], led), (queue[at], sign), told, met, queue, most)
        at += 1
    return met


def meet(vector, ahead, told, met, queue, most):
    """Notes those shares of the vector that weren't met yet, with what is ahead of them."""
    for _, shared in shares_of(vector, told):
        if shared not in met:
            if len(met) == most:
                raise TooMany(most)
            met[shared] = ahead
            queue.append(shared)


def text_to(vector, met):
    """The word by which the vector was come to."""
    text = ""
    while met[vector] is not None:
        vector, sign = met[vector]
        text = sign + text
    return text
