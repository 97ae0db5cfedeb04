"""4.1: whether a pattern reads a word, of every pattern."""

import random

from tests.helper import Case, kept, oddities, words
from tests.test_patterns import A, NONE, SIZES, chain, tree
from tests.test_patterntexts import some_pattern
from tests.test_positions import MACHINES, crowd, small_patterns
from tests.test_ways import NO_WORDS
from triesgrow.errors import NoWord, TooMany
from triesgrow.fits import fits
from triesgrow.patterns import is_pattern
from triesgrow.patterntexts import read
from triesgrow.positions import machine_of, reads_none
from triesgrow.ways import ways

# Patterns whose machines have more than 200 steps.
REFUSED = [
    crowd([8] * 5),
    crowd([8] * 11),
    crowd([4, 4, 4, 4, 3, 3, 3, 1]),
    ("then", crowd([8] * 10), ("sign", "z")),
    ("then", ("sign", "z"), crowd([8] * 10)),
    ("or", A, ("then", crowd([1, 2, 3, 4, 5, 6, 7, 8]), ("again", ("sign", "xyz")))),
    ("again", ("then", crowd([8, 8, 8, 8, 8]), ("then", A, A))),
]


def ends_of(pattern, word, begins):
    """The places up to which the pattern reads the word from one of these places on."""
    kind = pattern[0]
    if kind == "none":
        return begins
    if kind == "sign":
        return {at + 1 for at in begins if at < len(word) and word[at] in pattern[1]}
    if kind == "or":
        return ends_of(pattern[1], word, begins) | ends_of(pattern[2], word, begins)
    if kind == "then":
        return ends_of(pattern[2], word, ends_of(pattern[1], word, begins))
    told = begins
    while not ends_of(pattern[1], word, told) <= told:
        told = told | ends_of(pattern[1], word, told)
    return told


def read_by(pattern, word):
    """Whether the pattern reads the word, found without any machine."""
    return len(word) in ends_of(pattern, word, {0})


class Fits(Case):

    def test_told(self):
        self.is_true(fits(read("(a*b)"), "aab"))
        self.is_false(fits(read("(a*b)"), "aba"))
        self.is_true(fits(read("(a*b)"), "b"))
        self.is_false(fits(read("(a*b)"), ""))
        self.is_true(fits(read("[bz]"), "z"))
        self.is_false(fits(read("[bz]"), "c"))
        self.is_false(fits(read("[bz]"), "bz"))
        self.is_true(fits(read("((ab)|_)*"), "abab"))
        self.is_false(fits(read("((ab)|_)*"), "aba"))

    def test_the_word_without_signs(self):
        for pattern in small_patterns() + [size[0] for size in SIZES] + REFUSED:
            self.assertIs(fits(pattern, ""), reads_none(pattern))

    def test_as_the_machine_tells(self):
        for pattern in small_patterns() + [read(text) for text in MACHINES]:
            machine = machine_of(pattern)
            for word in words("abz", 3):
                self.assertIs(kept(fits, pattern, word), ways(machine, word) > 0)

    def test_as_found_without_a_machine(self):
        chance = random.Random(4)
        for _ in range(150):
            pattern = some_pattern(chance, 5)
            if is_pattern(pattern):
                signs = "".join(chance.sample("abcdefghijklmnopqrstuvwxyz", 3))
                for word in words(signs, 3):
                    self.assertIs(fits(pattern, word), read_by(pattern, word))

    def test_where_the_machine_is_refused(self):
        for pattern in REFUSED:
            self.assertTrue(is_pattern(pattern))
            self.refused(TooMany, {"many": 200}, machine_of, pattern)
            for word in words("ahyz", 4):
                self.assertIs(fits(pattern, word), read_by(pattern, word), (pattern, word))

    def test_within_the_bounds(self):
        for pattern, _, _, _ in SIZES:
            for word in words("az", 4) + ["a" * 11, "a" * 12, "a" * 10 + "z"]:
                self.assertIs(fits(pattern, word), read_by(pattern, word))

    def test_words_of_400_signs(self):
        for pattern in REFUSED[:2] + [chain(A, 11), ("again", tree("or", A, 11)), ("again", tree("then", A, 10))]:
            self.is_true(fits(pattern, "a" * 400))
            self.is_false(fits(pattern, "a" * 399 + "z"))
            self.is_false(fits(pattern, "z" + "a" * 399))
        self.is_false(fits(("again", tree("then", A, 11)), "a" * 400))
        self.is_true(fits(("again", tree("then", A, 11)), "a" * 396))
        self.is_true(fits(REFUSED[3], "ah" * 199 + "az"))
        self.is_false(fits(REFUSED[3], "ah" * 200))
        # Ten times a or none, then ten a: what tries one thing after the other would try long.
        many = tree("then", ("or", NONE, A), 5)
        slow = ("again", ("again", ("or", ("again", many), ("again", many))))
        self.is_true(fits(slow, "a" * 400))
        self.is_false(fits(slow, "a" * 399 + "b"))

    def test_called_by_name(self):
        self.is_true(fits(pattern=A, text="a"))

    def test_what_is_no_word(self):
        things = NO_WORDS + [(thing, None) for thing in oddities() if not isinstance(thing, str)]
        for thing, at in things:
            for pattern in (A, NONE, crowd([8] * 11)):
                self.refused(NoWord, {"at": at}, fits, pattern, thing)
