"""The memory, that reads words by sets of rooms and keeps where signs lead from some of them."""

from triesgrow.kinds import look_at_number, look_at_word
from triesgrow.machines import look_at, signs_of, steps_by
from triesgrow.roomtexts import marked, marks
from triesgrow.sets import SETS_MOST, set_after


class Known:
    """Tells of words whether a machine reads them, and keeps what it met for at most so many sets."""

    def __init__(self, machine, most=50):
        look_at(machine)
        look_at_number(most, 1, SETS_MOST)
        many, firsts, lasts, steps = machine
        self._begin = marks(firsts, many)
        self._lasts = list(lasts)
        self._leads = steps_by(steps, signs_of(machine))
        self._most = most
        # For a set, written as a text, for a sign, the set to which it leads; the sets as they were met.
        self._kept = {}

    def reads(self, text):
        """Whether the word is read."""
        return any([room in self._lasts for room in self.reached(text)])

    def reached(self, text):
        """The rooms in which beginnings of the whole word end, rising."""
        look_at_word(text)
        held = self._begin
        for sign in text:
            held = self._after(held, sign)
            if "1" not in held:
                # From the set without rooms each sign leads to itself, so nothing more is kept of it.
                return []
        return marked(held)

    def known(self):
        """For how many sets it keeps where signs lead from them."""
        return len(self._kept)

    def forget(self):
        """Forgets all that it keeps."""
        self._kept = {}

    def _after(self, held, sign):
        """The set to which the sign leads from the set: the kept one, or else a new one, to be kept."""
        if held not in self._kept:
            self._make_room()
            self._kept[held] = {}
        nexts = self._kept[held]
        if sign not in nexts:
            nexts[sign] = set_after(held, self._leads.get(sign, []))
        return nexts[sign]

    def _make_room(self):
        """Forgets the set that was met first, where there are as many as may be kept."""
        if len(self._kept) == self._most:
            oldest = next(iter(self._kept), None)
            del self._kept[oldest]
