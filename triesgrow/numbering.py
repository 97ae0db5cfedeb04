"""Ways by their numbers: the way with a number, and the number of a way."""

from triesgrow.errors import NoNumber, NoWay
from triesgrow.kinds import is_whole, look_at_word
from triesgrow.machines import look_at, turned
from triesgrow.ways import share, vectors, worth_one


def way_at(machine, text, number):
    """The way of the word with this number."""
    look_at(machine)
    look_at_word(text)
    onward = onward_by(machine, text)
    rooms = machine[1]
    if not is_whole(number) or not 0 <= number < share(onward[0], rooms):
        raise NoNumber(number)
    way = []
    left = number
    for at, vector in enumerate(onward):
        place = 0
        while left >= vector[rooms[place]]:
            left -= vector[rooms[place]]
            place += 1
        way.append(rooms[place])
        rooms = rooms_behind(machine, text, at, rooms[place])
    return way


def number_of(machine, text, way):
    """The number of this way of the word."""
    look_at(machine)
    look_at_word(text)
    look_at_way(machine, text, way)
    return ahead_of(machine, text, way, onward_by(machine, text))


def look_at_way(machine, text, thing):
    """Refuses, with NoWay, what is no way of the word."""
    if not isinstance(thing, list):
        raise NoWay(None)
    rooms = machine[1]
    for at, room in enumerate(thing):
        if not is_whole(room) or room not in rooms or (at == len(text) and room not in machine[2]):
            raise NoWay(at)
        rooms = rooms_behind(machine, text, at, room)
    if len(thing) <= len(text):
        raise NoWay(len(thing))


def ahead_of(machine, text, way, tables):
    """What all rooms that could stand ahead of the way's own have together, each in its place's table."""
    rooms = machine[1]
    total = 0
    for at, room in enumerate(way):
        total += share(tables[at], rooms[:rooms.index(room)])
        rooms = rooms_behind(machine, text, at, room)
    return total


def onward_by(machine, text):
    """For 0, 1, 2 .. signs of the word, how many ways on to a last the rest of it has from each room."""
    # The ways on are the beginnings of the rest, read backwards by the machine turned about.
    return vectors(turned(machine), text[::-1], machine[2], worth_one)[::-1]


def rooms_behind(machine, text, at, room):
    """The rooms to which steps by the word's sign at the place lead from the room, as they stand."""
    if at >= len(text):
        return []
    return [other for begin, sign, other in machine[3] if begin == room and sign == text[at]]
