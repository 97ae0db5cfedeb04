"""The reader, that counts the ways of a word sign by sign and never tries."""

from triesgrow.errors import Bare, NoNumber, NoSign, TooMany
from triesgrow.kinds import WORD_MOST, is_sign, is_whole, look_at_word
from triesgrow.machines import look_at, signs_of
from triesgrow.ways import moved, moves_by, one_at, rooms_with, share, worth_one


class Reader:
    """Has read a word of a machine; signs are fed to it and taken back."""

    def __init__(self, machine):
        look_at(machine)
        many, firsts, lasts, steps = machine
        self._machine = (many, list(firsts), list(lasts), list(steps))
        self._moves = moves_by(steps, signs_of(machine), worth_one)
        self._word = ""
        # For 0, 1, 2 .. signs of the word the counts: signs are taken back without reading the others again.
        self._vectors = [one_at(firsts, many)]

    def feed(self, sign):
        """Reads one sign more."""
        if not is_sign(sign):
            raise NoSign(sign)
        self._read(sign)

    def take(self, text):
        """Reads all signs of a word more."""
        look_at_word(text)
        self._read(text)

    def back(self, many=1):
        """Takes so many of the last signs back."""
        if not is_whole(many) or many < 1:
            raise NoNumber(many)
        left = len(self._word) - many
        if left < 0:
            raise Bare()
        self._word = self._word[:left]
        del self._vectors[left + 1:]

    def text(self):
        """The word that was read."""
        return self._word

    def reached(self):
        """The rooms in which beginnings of the whole word end, rising."""
        return rooms_with(self._vectors[-1])

    def counts(self):
        """For each room how many beginnings of the whole word end there."""
        return list(self._vectors[-1])

    def ways(self):
        """How many ways the word has."""
        return share(self._vectors[-1], self._machine[2])

    def is_read(self):
        """Whether the word has a way."""
        return self.ways() > 0

    def twin(self):
        """A new reader with the same machine and word."""
        other = Reader(self._machine)
        other.take(self._word)
        return other

    def __len__(self):
        return len(self._word)

    def __eq__(self, other):
        return isinstance(other, Reader) and self._machine == other._machine and self._word == other._word

    def __repr__(self):
        return f"Reader({self._word})"

    def _read(self, text):
        """Reads these signs more, or, where they are too many, none of them."""
        if len(self._word) + len(text) > WORD_MOST:
            raise TooMany(WORD_MOST)
        for sign in text:
            self._vectors.append(moved(self._vectors[-1], self._moves.get(sign, [])))
        self._word += text
