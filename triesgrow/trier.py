"""The trier, that goes from beginning to beginning of a word, takes the first way and comes back."""

from triesgrow.errors import TooMany
from triesgrow.kinds import look_at_number, look_at_word
from triesgrow.machines import look_at

TRIES_MOST = 10 ** 6


class Trier:
    """Tries the beginnings of a word one by one, in order, and tells those that are ways."""

    def __init__(self, machine, text, most=1000):
        look_at(machine)
        look_at_word(text)
        look_at_number(most, 1, TRIES_MOST)
        _, firsts, lasts, steps = machine
        self._lasts = list(lasts)
        self._text = text
        self._most = most
        self._behind = rooms_by_step(steps)
        self._made = 0
        # The beginning to which it has come.
        self._rooms = []
        # The rooms by which it may still go on, each with its place, the next one last.
        self._waiting = [(0, room) for room in firsts[::-1]]
        # Of each told way how many rooms it shares with the way told ahead of it, and its other
        # rooms: so all that is kept is never more than the tries.
        self._told = []
        self._shared = 0

    def go(self):
        """Goes on until it has come to a way, which is told, or to its end: None."""
        while self._waiting:
            if self._made == self._most:
                raise TooMany(self._most)
            self._try_next()
            if len(self._rooms) > len(self._text) and self._rooms[-1] in self._lasts:
                return self._tell()
        return None

    def tries(self):
        """How many tries there were."""
        return self._made

    def found(self):
        """The ways that were told, in order."""
        ways = []
        way = []
        for shared, rest in self._told:
            way = way[:shared] + rest
            ways.append(way)
        return ways

    def __len__(self):
        return len(self._told)

    def _try_next(self):
        """Comes to the next beginning."""
        at, room = self._waiting.pop()
        del self._rooms[at:]
        self._rooms.append(room)
        self._shared = min(self._shared, at)
        self._made += 1
        # Behind the word's end there is no sign, and so no step by it.
        sign = self._text[at:at + 1]
        self._waiting.extend([(at + 1, other) for other in self._behind.get((room, sign), [])])

    def _tell(self):
        """Tells the beginning to which it has come, as a way, and notes it."""
        self._told.append((self._shared, self._rooms[self._shared:]))
        self._shared = len(self._rooms)
        return list(self._rooms)


def rooms_by_step(steps):
    """For each room and sign the rooms to which steps lead, the last one first."""
    rooms = {}
    for room, sign, other in steps[::-1]:
        rooms.setdefault((room, sign), []).append(other)
    return rooms
