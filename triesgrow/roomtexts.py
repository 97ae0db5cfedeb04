"""Rooms of a machine written as texts, and such texts read to rooms."""

from triesgrow.errors import NoWord
from triesgrow.kinds import look_at_room
from triesgrow.machines import look_at


def rooms_text(machine, rooms):
    """The text that writes these rooms of the machine."""
    look_at(machine)
    for room in rooms:
        look_at_room(room, machine[0])
    return marks(rooms, machine[0])


def rooms_in(machine, text):
    """The rooms of the machine that the text writes, rising."""
    look_at(machine)
    if not are_marks(text, machine[0]):
        raise NoWord(None)
    return marked(text)


def marks(rooms, many):
    """The text of so many signs with 1 at each of these rooms, else 0."""
    return "".join(["1" if room in rooms else "0" for room in range(many)])


def are_marks(thing, many):
    """Whether the thing is a text that writes some of so many rooms."""
    return isinstance(thing, str) and len(thing) == many and all([mark in "01" for mark in thing])


def marked(text):
    """The rooms that the text has 1 at, rising."""
    return [room for room, mark in enumerate(text) if mark == "1"]
