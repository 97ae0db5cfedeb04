"""How ways grow with the word: never, as a power, or doubling."""

from triesgrow.rounds import double_rounds, led_rounds
from triesgrow.useful import led_to, useful


def growth(machine):
    """How ways grow."""
    told = ranks(machine)
    if told is None:
        return ("doubles",)
    power = greatest_rank(told)
    return ("power", power) if power > 0 else ("never",)


def ranks(machine):
    """The rank of each room, None of those that aren't useful; None where some useful room goes double."""
    return None if double_rounds(machine) else ranks_by(machine, led_rounds(machine))


def greatest_rank(told):
    """The greatest of the ranks, 0 where no room has one."""
    return max([rank for rank in told if rank is not None], default=0)


def ranks_by(machine, pairs):
    """The rank of each room where none goes double, from the pairs of which the first leads the other's rounds."""
    told = {room: 0 for room in useful(machine)}
    behind = {other: rooms_led_from(machine, other, told) for _, other, _ in pairs}
    # As no pair can follow itself, there are fewer pairs one behind the other than rooms.
    for _ in range(len(told)):
        for room, other, _ in pairs:
            for last in behind[other]:
                told[last] = max(told[last], told[room] + 1)
    return [told.get(room) for room in range(machine[0])]


def rooms_led_from(machine, room, rooms):
    """Those of the rooms to which a word leads from the room."""
    return [other for other in led_to([room], machine[3]) if other in rooms]
