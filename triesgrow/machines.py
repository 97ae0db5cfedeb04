"""Machines: what is one, and those that are made of one by turning it about or calling its rooms otherwise."""

from triesgrow.errors import NoMachine, NoRoom
from triesgrow.kinds import is_room, is_sign, is_whole

ROOMS_MOST = 12
STEPS_MOST = 200


def look_at(thing):
    """Refuses, with NoMachine, what is no machine."""
    if not isinstance(thing, tuple) or len(thing) != 4:
        raise NoMachine("machine", None)
    many, firsts, lasts, steps = thing
    if not is_whole(many) or not 1 <= many <= ROOMS_MOST:
        raise NoMachine("many", None)
    look_at_rooms(firsts, many, "firsts")
    look_at_rooms(lasts, many, "lasts")
    look_at_steps(steps, many)


def look_at_rooms(rooms, many, part):
    """Refuses what is no rising list of unlike rooms, as this part of a machine."""
    if not isinstance(rooms, list):
        raise NoMachine(part, None)
    least = 0
    for at, room in enumerate(rooms):
        if not is_room(room, many) or room < least:
            raise NoMachine(part, at)
        least = room + 1


def look_at_steps(steps, many):
    """Refuses what is no list of at most 200 unlike steps."""
    if not isinstance(steps, list) or len(steps) > STEPS_MOST:
        raise NoMachine("steps", None)
    seen = set()
    for at, step in enumerate(steps):
        if not is_step(step, many) or step in seen:
            raise NoMachine("steps", at)
        seen.add(step)


def is_step(thing, many):
    """Whether the thing is a step where there are so many rooms."""
    if not isinstance(thing, tuple) or len(thing) != 3:
        return False
    room, sign, other = thing
    return is_room(room, many) and is_sign(sign) and is_room(other, many)


def turned(machine):
    """The machine turned about."""
    look_at(machine)
    many, firsts, lasts, steps = machine
    return many, list(lasts), list(firsts), [(other, sign, room) for room, sign, other in steps]


def called(machine, rooms):
    """The machine with each room r called rooms[r]."""
    look_at(machine)
    many, firsts, lasts, steps = machine
    if not are_all_rooms(rooms, many):
        raise NoRoom(None)
    return (
        many,
        sorted([rooms[room] for room in firsts]),
        sorted([rooms[room] for room in lasts]),
        [(rooms[room], sign, rooms[other]) for room, sign, other in steps],
    )


def are_all_rooms(thing, many):
    """Whether the thing is a list of all of so many rooms' numbers, each once."""
    if not isinstance(thing, list) or len(thing) != many:
        return False
    return all([is_room(room, many) for room in thing]) and sorted(thing) == list(range(many))


def beginnings(machine):
    """The machine whose ways are the beginnings of this one: all rooms are lasts."""
    look_at(machine)
    many, firsts, _, steps = machine
    return many, list(firsts), list(range(many)), list(steps)


def signs_of(machine):
    """The signs that some step of the machine has, as letters go."""
    return sorted({sign for _, sign, _ in machine[3]})


def steps_by(steps, signs):
    """For each of the signs the steps by it, as they stand."""
    told = {sign: [] for sign in signs}
    for step in steps:
        if step[1] in told:
            told[step[1]].append(step)
    return told
