"""The machine of a pattern: a room for each of its leaves."""

from triesgrow.errors import TooMany
from triesgrow.machines import STEPS_MOST
from triesgrow.patterns import inner_of, leaves_of


def machine_of(pattern):
    """The machine of the pattern."""
    machine = unbounded(pattern)
    if len(machine[3]) > STEPS_MOST:
        raise TooMany(STEPS_MOST)
    return machine


def unbounded(pattern):
    """The machine of the pattern, however many steps it has."""
    none, begins, ends, pairs = places(pattern, 1)
    letters = letters_of(pattern)
    leads = all_pairs([0], begins) + pairs
    steps = sorted({(room, sign, other) for room, other in leads for sign in letters[other - 1]})
    return 1 + len(letters), [0], sorted([0] + ends if none else ends), steps


def reads_none(pattern):
    """Whether the pattern reads the word without signs."""
    return places(pattern, 1)[0]


def places(pattern, room):
    """What hangs on the places of the pattern's leaves, the first one of them in this room.

    Told are whether the word without signs is read, the rooms with which a word can begin,
    those with which one can end, and the pairs of which the second can come next in a word.
    """
    kind = pattern[0]
    if kind == "none":
        return True, [], [], []
    if kind == "sign":
        return False, [room], [room], []
    one = places(pattern[1], room)
    if kind == "again":
        _, begins, ends, pairs = one
        return True, begins, ends, pairs + all_pairs(ends, begins)
    other = places(pattern[2], room + leaves_of(pattern[1]))
    return behind(one, other) if kind == "then" else either(one, other)


def behind(one, other):
    """The places of then, from those of its two patterns."""
    none, begins, ends, pairs = one
    other_none, other_begins, other_ends, other_pairs = other
    return (
        none and other_none,
        begins + other_begins if none else begins,
        ends + other_ends if other_none else other_ends,
        pairs + other_pairs + all_pairs(ends, other_begins),
    )


def either(one, other):
    """The places of or, from those of its two patterns."""
    return one[0] or other[0], one[1] + other[1], one[2] + other[2], one[3] + other[3]


def all_pairs(rooms, others):
    """Each of the rooms with each of the others."""
    return [(room, other) for room in rooms for other in others]


def letters_of(pattern):
    """The letters of each leaf of the pattern, as they are written."""
    if pattern[0] == "sign":
        return [pattern[1]]
    return [letters for inner in inner_of(pattern) for letters in letters_of(inner)]
