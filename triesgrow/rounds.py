"""Rounds of rooms: the words on which rooms go double, or lead the rounds of other ones.

Several ways go abreast, all by the same signs. The rooms in which they stand are numbered together, as one
place; several places are one whole number with a bit for each, so that all of them go on at once.
"""

from triesgrow.machines import signs_of, turned
from triesgrow.useful import trimmed, useful


def double_rounds(machine):
    """Each useful room that goes double, with the shortest word on which it does, the first such one."""
    rooms = useful(machine)
    many = machine[0]
    # The places of two ways that were alike so far, and behind all of them those of two that were not.
    size = many * many
    axes = axes_of((many, 1), many, 2 * size)
    apart = sum([1 << at for at in range(size) if at // many != at % many])
    onward, backward = leads_both(machine)

    def go(places, sign):
        after = stepped(places, onward[sign], axes)
        return (after & ~apart) | ((after & apart) << size)

    def come(places, sign):
        # Ways that stand apart may have been alike a sign ahead, if they stood in one room there.
        return stepped(places | ((places >> size) & apart), backward[sign], axes) & ~apart

    told = []
    for room in rooms:
        place = room * many + room
        word = first_text(1 << place, 1 << (size + place), onward, go, come)
        if word is not None:
            told.append((room, word))
    return told


def led_rounds(machine):
    """Each two unlike useful rooms of which the first leads the other's rounds, with the first such word."""
    rooms = useful(machine)
    many = machine[0]
    axes = axes_of((many * many, many, 1), many, many * many * many)
    onward, backward = leads_both(machine)

    def go(places, sign):
        return stepped(places, onward[sign], axes)

    def come(places, sign):
        return stepped(places, backward[sign], axes)

    told = []
    pairs = [(room, other) for room in rooms for other in rooms if room != other]
    for room, other in pairs:
        # One way is a round of the room, one leads from it to the other, and one is a round of the other.
        start = (room * many + room) * many + other
        goal = (room * many + other) * many + other
        word = first_text(1 << start, 1 << goal, onward, go, come)
        if word is not None:
            told.append((room, other, word))
    return told


def axes_of(sizes, many, places):
    """For each way, a room of which counts this size in a place, the size, and for each room where the way is in it."""
    return [(size, [standing(size, many, places, room) for room in range(many)]) for size in sizes]


def standing(size, many, places, room):
    """Those of so many places at which the way of this size stands in the room."""
    return sum([1 << place for place in range(places) if place // size % many == room])


def leads_both(machine):
    """The leads of the machine trimmed, and of that turned about."""
    whole = trimmed(machine)
    return leads_by(whole), leads_by(turned(whole))


def leads_by(machine):
    """For each sign that a step has, for each room, the rooms to which steps by the sign lead from it."""
    leads = {sign: {} for sign in signs_of(machine)}
    for room, sign, other in machine[3]:
        leads[sign].setdefault(room, []).append(other)
    return leads


def stepped(places, leads, axes):
    """The places to which these lead when each of the ways takes one of the leads."""
    for size, standing_in in axes:
        after = 0
        for room, others in leads.items():
            held = (places & standing_in[room]) >> (size * room)
            if held:
                for other in others:
                    after |= held << (size * other)
        places = after
    return places


def first_text(start, goal, signs, go, come):
    """The shortest word that leads from the start to the goal, of several the first as letters go; None without one.

    go tells the places to which places lead by a sign, come those that lead to them by it.
    """
    layers = layers_to(start, goal, signs, come)
    if layers is None:
        return None
    text = ""
    held = start
    for layer in layers[::-1]:
        sign, held = first_step(held, layer, signs, go)
        text += sign
    return text


def first_step(held, layer, signs, go):
    """The first of the signs by which the held places lead into the layer, and the places there."""
    for sign in signs:
        after = go(held, sign) & layer
        if after:
            return sign, after
    return None


def layers_to(start, goal, signs, come):
    """The places from which 0, 1, 2 .. signs, and no fewer, lead to the goal; those of the start's own layer not."""
    layers = []
    layer = goal
    seen = goal
    while not layer & start:
        layers.append(layer)
        before = 0
        for sign in signs:
            before |= come(layer, sign)
        layer = before & ~seen
        if not layer:
            return None
        seen |= layer
    return layers
