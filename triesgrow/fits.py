"""Whether a pattern reads a word, of every pattern."""

from triesgrow.kinds import look_at_word
from triesgrow.positions import unbounded
from triesgrow.ways import share, vectors, worth_one


def fits(pattern, text):
    """Whether the pattern reads the word."""
    look_at_word(text)
    # Not machine_of, which refuses a pattern whose machine has too many steps.
    machine = unbounded(pattern)
    return share(vectors(machine, text, machine[1], worth_one)[-1], machine[2]) > 0
