"""The desk, that keeps patterns and machines by names, and a reader, and answers rows of words."""

from triesgrow.above import greatest
from triesgrow.errors import Bare, NoName, NoPattern, NoRow, TooMany
from triesgrow.growth import growth
from triesgrow.kinds import is_sign
from triesgrow.machinetexts import read_machine, shown_machine
from triesgrow.numbering import way_at
from triesgrow.otherwise import put_otherwise
from triesgrow.patterns import is_word
from triesgrow.patterntexts import read, shown
from triesgrow.positions import machine_of
from triesgrow.reader import Reader
from triesgrow.roomtexts import marks
from triesgrow.sameness import parting
from triesgrow.slow import slow_word
from triesgrow.tries import tries_all
from triesgrow.ways import ways

NAMES_MOST = 12
NAME_SIGNS_MOST = 8
FIGURES_MOST = 4

# What stands behind the first word of each row. A text is all that is left; something stands by a
# name already, and by a machine's name something whose machine is meant.
ROWS = {
    "pattern": ("new", "text"),
    "machine": ("new", "text"),
    "otherwise": ("name", "new"),
    "made": ("name", "new"),
    "drop": ("name",),
    "names": (),
    "show": ("name",),
    "reads": ("machine", "word"),
    "ways": ("machine", "word"),
    "tries": ("machine", "word"),
    "way": ("machine", "number", "word"),
    "grows": ("machine",),
    "greatest": ("machine",),
    "slow": ("machine", "number"),
    "parting": ("machine", "machine"),
    "begin": ("machine",),
    "feed": ("word",),
    "back": ("number",),
    "now": (),
}


class Desk:
    """Is told rows, one by one, and answers each with a text."""

    def __init__(self):
        # By each name the pattern or the machine that stands there.
        self._kept = {}
        # There is none till one is begun.
        self._reader = None

    def say(self, row):
        """The answer to the row."""
        first, words = row_parted(row)
        kinds = ROWS[first]
        for kind, word in zip(kinds, words):
            if kind in ("name", "machine") and word not in self._kept:
                raise NoName(word)
        if first in ("feed", "back", "now") and self._reader is None:
            raise Bare()
        if "new" in kinds:
            return self._keep(words[kinds.index("new")], self._thing_of(first, words))
        values = [self._value(kind, word) for kind, word in zip(kinds, words)]
        if first in ANSWERS:
            answer = ANSWERS[first]
            return answer(*values)
        if first in ("drop", "names", "show"):
            return self._of_names(first, values)
        return self._of_reader(first, values)

    def _value(self, kind, word):
        """What the word of this kind means."""
        if kind == "machine":
            return machine_meant(self._kept[word])
        if kind == "number":
            return int(word)
        return "" if word == "-" else word

    def _thing_of(self, first, words):
        """What the row makes, to be kept by a name."""
        if first == "pattern":
            return read(words[1])
        if first == "machine":
            return read_machine(words[1].replace("; ", "\n"))
        kept = self._kept[words[0]]
        if not is_pattern_kept(kept):
            raise NoPattern(None)
        return put_otherwise(kept) if first == "otherwise" else machine_of(kept)

    def _keep(self, name, thing):
        """Keeps the thing by the name, in the stead of what stood there."""
        if name not in self._kept and len(self._kept) == NAMES_MOST:
            raise TooMany(NAMES_MOST)
        self._kept[name] = thing
        return "ok"

    def _of_names(self, first, values):
        """The answer to a row of names, or of what is kept by one."""
        if first == "names":
            return " ".join(sorted(list(self._kept))) or "-"
        if first == "show":
            return text_of(self._kept[values[0]])
        del self._kept[values[0]]
        return "ok"

    def _of_reader(self, first, values):
        """The answer to a row of the reader."""
        if first == "now":
            rooms = marks(self._reader.reached(), len(self._reader.counts()))
            return f"{written(self._reader.text())} {rooms} {self._reader.ways()}"
        if first == "begin":
            self._reader = Reader(values[0])
        elif first == "feed":
            self._reader.take(values[0])
        else:
            self._reader.back(values[0])
        return "ok"


def row_parted(row):
    """The row's first word, and the words behind it, each of its kind; refused, with NoRow, where it is no row."""
    if not isinstance(row, str) or "\n" in row:
        raise NoRow()
    first = row.split(" ", 1)[0]
    kinds = ROWS.get(first)
    if kinds is None:
        raise NoRow()
    words = row.split(" ", len(kinds)) if "text" in kinds else row.split(" ")
    if len(words) != len(kinds) + 1 or not all([is_of_kind(word, kind) for word, kind in zip(words[1:], kinds)]):
        raise NoRow()
    return first, words[1:]


def is_of_kind(word, kind):
    """Whether the word can stand in a row as one of this kind."""
    if kind == "text":
        return True
    if kind == "word":
        return word == "-" or (word != "" and is_word(word))
    if kind == "number":
        return is_number(word)
    return 1 <= len(word) <= NAME_SIGNS_MOST and all([is_sign(sign) for sign in word])


def is_number(word):
    """Whether the word is one to four figures, without a nought ahead but in 0 itself."""
    if not 1 <= len(word) <= FIGURES_MOST or not all([figure in "0123456789" for figure in word]):
        return False
    return word == "0" or word[0] != "0"


def is_pattern_kept(kept):
    """Whether what is kept is a pattern: these begin with a text, and machines with a number."""
    return isinstance(kept[0], str)


def machine_meant(kept):
    """The machine that is meant by what is kept."""
    return machine_of(kept) if is_pattern_kept(kept) else kept


def text_of(kept):
    """The text that writes what is kept, in one row."""
    return shown(kept) if is_pattern_kept(kept) else shown_machine(kept).replace("\n", "; ")


def written(word):
    """The word as it stands in a row."""
    return word if word else "-"


def reads_answer(machine, word):
    """Whether the machine reads the word."""
    return "yes" if ways(machine, word) > 0 else "no"


def ways_answer(machine, word):
    """How many ways the word has."""
    return str(ways(machine, word))


def tries_answer(machine, word):
    """How many tries the word has."""
    return str(tries_all(machine, word))


def way_answer(machine, number, word):
    """The rooms of the way with the number."""
    return " ".join([str(room) for room in way_at(machine, word, number)])


def grows_answer(machine):
    """How ways grow."""
    return " ".join([str(part) for part in growth(machine)])


def greatest_answer(machine):
    """The greatest number of ways, and a word that has so many."""
    many, word = greatest(machine)
    return "0" if word is None else f"{many} {written(word)}"


def slow_answer(machine, number):
    """The slow word of so many times."""
    word = slow_word(machine, number)
    return "-" if word is None else word


def parting_answer(machine, other):
    """The word that just one of both machines reads."""
    word = parting(machine, other)
    return "=" if word is None else written(word)


# What is answered to rows of machines alone.
ANSWERS = {
    "reads": reads_answer,
    "ways": ways_answer,
    "tries": tries_answer,
    "way": way_answer,
    "grows": grows_answer,
    "greatest": greatest_answer,
    "slow": slow_answer,
    "parting": parting_answer,
}
