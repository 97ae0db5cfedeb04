"""Tables, that bound the ways of words from above, and the checker that lets them by."""

from math import comb

from triesgrow.growth import greatest_rank
from triesgrow.kinds import is_whole, look_at_number
from triesgrow.machines import look_at, signs_of
from triesgrow.useful import trimmed, useful
from triesgrow.ways import moved, moves_by, one_at, share, worth_one

RANK_MOST = 11
LENGTH_MOST = 10 ** 9


def lets_table(machine, thing):
    """Whether the thing is a table of the machine that is let by."""
    rooms = useful(machine)
    return is_table(thing, machine[0], rooms) and is_closed(machine, thing)


def is_table(thing, many, rooms):
    """Whether the thing is a table of a machine with so many rooms and these useful ones."""
    if not isinstance(thing, tuple) or len(thing) != 2:
        return False
    ranks, parts = thing
    if not are_ranks(ranks, many, rooms) or not isinstance(parts, list) or len(parts) != greatest_rank(ranks) + 1:
        return False
    return all([is_part(part, ranks, rank) for rank, part in enumerate(parts)])


def are_ranks(thing, many, rooms):
    """Whether the thing lists a rank for each useful room, and None for each other one."""
    if not isinstance(thing, list) or len(thing) != many:
        return False
    return all([is_rank(rank) if room in rooms else rank is None for room, rank in enumerate(thing)])


def is_rank(thing):
    """Whether the thing is a rank."""
    return is_whole(thing) and 0 <= thing <= RANK_MOST


def is_part(thing, ranks, rank):
    """Whether the thing is a list of vectors that are 0 but at the rooms of this rank."""
    return isinstance(thing, list) and all([is_vector(vector, ranks, rank) for vector in thing])


def is_vector(thing, ranks, rank):
    """Whether the thing is a vector that is 0 at all rooms but those of this rank, and not at all of these."""
    if not isinstance(thing, list) or len(thing) != len(ranks) or not all([is_whole(many) for many in thing]):
        return False
    rightly = [many >= 0 if own == rank else many == 0 for many, own in zip(thing, ranks)]
    return all(rightly) and any(thing)


def is_closed(machine, table):
    """Whether all shares of the begin, and of what the table's vectors become, are held as they must be."""
    ranks, parts = table
    begin, moves = begin_and_moves(machine)
    known = [{tuple(vector): True for vector in part} for part in parts]
    if not are_held(begin, 0, table, known):
        return False
    for rank, part in enumerate(parts):
        for vector in part:
            for _, led in moves:
                if not are_held(moved(vector, led), rank, table, known):
                    return False
    return True


def begin_and_moves(machine):
    """The begin, and the moves from useful rooms to useful ones by each sign that has any, as letters go."""
    whole = trimmed(machine)
    moves = moves_by(whole[3], signs_of(whole), worth_one)
    return one_at(whole[1], whole[0]), list(moves.items())


def are_held(vector, least, table, known):
    """Whether each share of the vector is of no lesser rank than the least, and held by the table.

    known has for each part the shares of which it was seen that they are held, the part's own vectors among them.
    """
    ranks, parts = table
    for rank, shared in shares_of(vector, ranks):
        if rank < least:
            return False
        if shared not in known[rank]:
            if not is_under(shared, parts[rank]):
                return False
            known[rank][shared] = True
    return True


def shares_of(vector, ranks):
    """The shares of the vector that aren't 0 everywhere, each behind its rank, rising."""
    rising = sorted({ranks[room] for room, many in enumerate(vector) if many > 0})
    return [(rank, tuple([many if own == rank else 0 for many, own in zip(vector, ranks)])) for rank in rising]


def is_under(vector, part):
    """Whether the vector is, place by place, not above some one vector of the part."""
    for above in part:
        if all([many <= most for many, most in zip(vector, above)]):
            return True
    return False


def bound(machine, table, n):
    """How many ways a word of n signs has at most by the table."""
    look_at(machine)
    look_at_number(n, 0, LENGTH_MOST)
    total = 0
    for rank, part in enumerate(table[1]):
        top = max([share(vector, machine[2]) for vector in part], default=0)
        total += top * comb(n + rank, rank)
    return total
