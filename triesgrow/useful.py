"""Useful rooms, machines trimmed to them, and the shortest words between rooms."""

from triesgrow.kinds import look_at_room
from triesgrow.machines import look_at, turned


def useful(machine):
    """The rooms to which a word leads from a first, and from which one leads to a last, rising."""
    many, lasts, firsts, steps_back = turned(machine)
    ahead = led_to(firsts, machine[3])
    behind = led_to(lasts, steps_back)
    return [room for room in range(many) if room in ahead and room in behind]


def trimmed(machine):
    """The machine without what belongs to rooms that aren't useful."""
    rooms = useful(machine)
    many, firsts, lasts, steps = machine
    return (
        many,
        [room for room in firsts if room in rooms],
        [room for room in lasts if room in rooms],
        [(room, sign, other) for room, sign, other in steps if room in rooms and other in rooms],
    )


def text_between(machine, room, other):
    """The shortest word that leads from the room to the other, the first such one; None where there is none."""
    look_at(machine)
    look_at_room(room, machine[0])
    look_at_room(other, machine[0])
    return texts_from(machine, room).get(other)


def led_to(rooms, steps):
    """The rooms to which words lead from these rooms by the steps, these themselves too."""
    told = rooms
    more = rooms
    while more:
        more = sorted({other for room, _, other in steps if room in told and other not in told})
        told = told + more
    return told


def texts_from(machine, room):
    """For each room to which a word leads from the room the shortest one, of several the first as letters go."""
    texts = {room: ""}
    found = texts
    while found:
        # All words in found have as many signs, so those a sign longer can be compared as letters go.
        found = texts_after(machine, found, texts)
        texts = {**texts, **found}
    return texts


def texts_after(machine, found, texts):
    """For each room without a text yet, to which a sign leads behind one that was found, the first such text."""
    longer = {}
    for room, sign, other in machine[3]:
        if room in found and other not in texts:
            text = found[room] + sign
            longer[other] = min(text, longer.get(other, text))
    return longer
