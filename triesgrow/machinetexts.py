"""Machines written as texts, and texts read to machines."""

from triesgrow.errors import NoText
from triesgrow.kinds import is_sign
from triesgrow.machines import ROOMS_MOST, STEPS_MOST, look_at

# The rows ahead of the steps: the rooms, the firsts, the lasts.
ROWS_AHEAD = 3


def shown_machine(machine):
    """The text that writes the machine."""
    look_at(machine)
    many, firsts, lasts, steps = machine
    rows = [f"rooms {many}", rooms_row("first", firsts), rooms_row("last", lasts)]
    return "\n".join(rows + [f"{room} {sign} {other}" for room, sign, other in steps])


def rooms_row(word, rooms):
    """The row with this word ahead of the rooms."""
    return " ".join([word] + [str(room) for room in rooms])


def read_machine(text):
    """The machine that the text writes."""
    if not isinstance(text, str):
        raise NoText(0)
    rows = text.split("\n")
    many = rooms_in_row(rows[0])
    if many is None:
        raise NoText(0)
    numbers = {str(room): room for room in range(many)}
    listed = []
    for at, word in ((1, "first"), (2, "last")):
        rooms = rising_in_row(rows[at], word, numbers) if at < len(rows) else None
        if rooms is None:
            raise NoText(at)
        listed.append(rooms)
    firsts, lasts = listed
    return many, firsts, lasts, steps_in_rows(rows, numbers)


def rooms_in_row(row):
    """How many rooms the first row tells; None where it can't stand."""
    numbers = {f"rooms {many}": many for many in range(1, ROOMS_MOST + 1)}
    return numbers.get(row)


def rising_in_row(row, word, numbers):
    """The rising rooms that the row tells behind the word; None where it can't stand."""
    words = row.split(" ")
    if words[0] != word:
        return None
    rooms = []
    for figures in words[1:]:
        room = numbers.get(figures)
        if room is None or (rooms and room <= rooms[-1]):
            return None
        rooms.append(room)
    return rooms


def steps_in_rows(rows, numbers):
    """The steps that the rows tell behind those ahead of them."""
    steps = []
    seen = set()
    for at in range(ROWS_AHEAD, len(rows)):
        step = step_in_row(rows[at], numbers)
        if step is None or step in seen or len(steps) == STEPS_MOST:
            raise NoText(at)
        seen.add(step)
        steps.append(step)
    return steps


def step_in_row(row, numbers):
    """The step that the row tells; None where it tells none."""
    words = row.split(" ")
    if len(words) != 3 or not is_sign(words[1]):
        return None
    room = numbers.get(words[0])
    other = numbers.get(words[2])
    return None if room is None or other is None else (room, words[1], other)
