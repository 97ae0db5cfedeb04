"""4.1: the machines of patterns, and whether a pattern reads the word without signs."""

import random
import re

from tests.helper import Case, words
from tests.test_patterns import A, NONE, SIZES, chain, tree
from tests.test_patterntexts import some_pattern
from triesgrow.errors import TooMany
from triesgrow.machines import look_at
from triesgrow.patterns import is_pattern, leaves_of, parts_of
from triesgrow.patterntexts import read
from triesgrow.positions import machine_of, reads_none
from triesgrow.ways import ways

MACHINES = {
    "_": (1, [0], [0], []),
    "_*": (1, [0], [0], []),
    "(_|_)": (1, [0], [0], []),
    "a": (2, [0], [1], [(0, "a", 1)]),
    "[acz]": (2, [0], [1], [(0, "a", 1), (0, "c", 1), (0, "z", 1)]),
    "a*": (2, [0], [0, 1], [(0, "a", 1), (1, "a", 1)]),
    "a**": (2, [0], [0, 1], [(0, "a", 1), (1, "a", 1)]),
    "(ab)": (3, [0], [2], [(0, "a", 1), (1, "b", 2)]),
    "(ba)": (3, [0], [2], [(0, "b", 1), (1, "a", 2)]),
    "(a|b)": (3, [0], [1, 2], [(0, "a", 1), (0, "b", 2)]),
    "(b|a)": (3, [0], [1, 2], [(0, "a", 2), (0, "b", 1)]),
    "(a|a)": (3, [0], [1, 2], [(0, "a", 1), (0, "a", 2)]),
    "(a_)": (2, [0], [1], [(0, "a", 1)]),
    "(_a)": (2, [0], [1], [(0, "a", 1)]),
    "(a|_)": (2, [0], [0, 1], [(0, "a", 1)]),
    "(ab*)": (3, [0], [1, 2], [(0, "a", 1), (1, "b", 2), (2, "b", 2)]),
    "(a*b)": (3, [0], [2], [(0, "a", 1), (0, "b", 2), (1, "a", 1), (1, "b", 2)]),
    "(a*b*)": (3, [0], [0, 1, 2], [(0, "a", 1), (0, "b", 2), (1, "a", 1), (1, "b", 2), (2, "b", 2)]),
    "(ab)*": (3, [0], [0, 2], [(0, "a", 1), (1, "b", 2), (2, "a", 1)]),
    "(a(b|_))": (3, [0], [1, 2], [(0, "a", 1), (1, "b", 2)]),
    "((a|_)(b|_))": (3, [0], [0, 1, 2], [(0, "a", 1), (0, "b", 2), (1, "b", 2)]),
    "(([ab]|a)*[ab])": (4, [0], [3], [
        (0, "a", 1), (0, "a", 2), (0, "a", 3), (0, "b", 1), (0, "b", 3),
        (1, "a", 1), (1, "a", 2), (1, "a", 3), (1, "b", 1), (1, "b", 3),
        (2, "a", 1), (2, "a", 2), (2, "a", 3), (2, "b", 1), (2, "b", 3)]),
}


def crowd(sizes):
    """Again of or of leaves with so many letters: from each room a step by each letter of each leaf."""
    leaves = [("sign", "abcdefgh"[:size]) for size in sizes]
    pattern = leaves[0]
    for leaf in leaves[1:]:
        pattern = ("or", pattern, leaf)
    return "again", pattern


def marked(pattern, most, leaf=1):
    """All words of at most so many signs that the pattern reads, each as the leaves that read its signs."""
    kind = pattern[0]
    if kind == "none":
        return {()}
    if kind == "sign":
        return {(leaf,)} if most > 0 else set()
    one = marked(pattern[1], most, leaf)
    if kind == "again":
        told = {()}
        while True:
            longer = told | {ahead + back for ahead in told for back in one if len(ahead + back) <= most}
            if longer == told:
                return told
            told = longer
    other = marked(pattern[2], most, leaf + leaves_of(pattern[1]))
    if kind == "or":
        return one | other
    return {ahead + back for ahead in one for back in other if len(ahead + back) <= most}


def leaves_in(pattern):
    if pattern[0] == "sign":
        return [pattern[1]]
    return [letters for inner in pattern[1:] for letters in leaves_in(inner)]


def machine_by_words(pattern, most):
    """The machine of the pattern, gathered from the words that it reads."""
    letters = leaves_in(pattern)
    read_words = marked(pattern, most)
    leads = {(0, word[0]) for word in read_words if word}
    leads |= {pair for word in read_words for pair in zip(word, word[1:])}
    steps = sorted((room, sign, other) for room, other in leads for sign in letters[other - 1])
    lasts = sorted({word[-1] if word else 0 for word in read_words})
    return len(letters) + 1, [0], lasts, steps


def expression(pattern):
    """A regular expression that reads what the pattern reads."""
    kind = pattern[0]
    if kind == "none":
        return "(?:)"
    if kind == "sign":
        return f"[{pattern[1]}]"
    inner = [expression(each) for each in pattern[1:]]
    if kind == "again":
        return f"(?:{inner[0]})*"
    return f"(?:{inner[0]}{'|' if kind == 'or' else ''}{inner[1]})"


def small_patterns():
    chance = random.Random(3)
    told = []
    while len(told) < 150:
        pattern = some_pattern(chance, 4)
        if leaves_of(pattern) <= 3 and parts_of(pattern) <= 12:
            told.append(pattern)
    return told + [read(text) for text in MACHINES]


class Machines(Case):

    def test_told(self):
        for text, machine in MACHINES.items():
            self.same_kinds(machine_of(read(text)), machine)

    def test_gathered_from_words(self):
        for pattern in small_patterns():
            machine = machine_of(pattern)
            self.assertIsNone(look_at(machine))
            self.same_kinds(machine, machine_by_words(pattern, 6))

    def test_reads_what_the_pattern_reads(self):
        for text in [*MACHINES, "((a|b)*(ab))", "((a*b*)*|(ba)*)", "(((ab)|a)(b|_))*", "((a|(ab))*[ab])"]:
            pattern = read(text)
            machine = machine_of(pattern)
            for word in words("abz", 4):
                wanted = re.fullmatch(expression(pattern), word) is not None
                self.assertEqual(ways(machine, word) > 0, wanted, (text, word))

    def test_ways_of_a_pattern(self):
        self.assertEqual(ways(machine_of(read("(a|a)")), "a"), 2)
        self.assertEqual(ways(machine_of(read("(a*a*)")), "aaa"), 4)
        self.assertEqual(ways(machine_of(read("(a|a)*")), "a" * 10), 1024)
        self.assertEqual(ways(machine_of(read("a**")), "aaa"), 1)

    def test_bounds(self):
        self.assertEqual(machine_of(tree("then", A, 11)), (
            12, [0], [11], [(room, "a", room + 1) for room in range(11)]))
        self.assertEqual(machine_of(("again", tree("or", A, 11)))[0], 12)
        self.assertEqual(len(machine_of(("again", tree("or", A, 11)))[3]), 132)
        self.assertEqual(machine_of(chain(A, 11)), MACHINES["a*"])
        self.assertEqual(machine_of(chain(NONE, 11)), MACHINES["_"])

    def test_200_steps_and_one_more(self):
        pattern = crowd([4, 4, 4, 4, 3, 3, 3])
        machine = machine_of(pattern)
        self.assertEqual(len(machine[3]), 200)
        self.assertIsNone(look_at(machine))
        self.refused(TooMany, {"many": 200}, machine_of, ("or", pattern, A))
        self.refused(TooMany, {"many": 200}, machine_of, ("then", pattern, A))
        self.assertEqual(len(machine_of(("or", pattern, NONE))[3]), 200)

    def test_many_more_steps(self):
        pattern = crowd([8] * 11)
        self.assertTrue(is_pattern(pattern))
        self.refused(TooMany, {"many": 200}, machine_of, pattern)
        self.refused(TooMany, {"many": 200}, machine_of, ("then", crowd([8] * 5), A))

    def test_told_lists_are_the_askers_own(self):
        for text, machine in MACHINES.items():
            pattern = read(text)
            told = machine_of(pattern)
            for part in told[1:]:
                part.append("changed")
            self.assertEqual(machine_of(pattern), machine)
            self.assertEqual(pattern, read(text))

    def test_firsts_and_lasts_are_lists_of_their_own(self):
        told = machine_of(NONE)
        told[1].append(1)
        self.assertEqual(told[2], [0])

    def test_called_by_name(self):
        self.assertEqual(machine_of(pattern=A), MACHINES["a"])
        self.is_false(reads_none(pattern=A))


class ReadsNone(Case):

    def test_told(self):
        for text in ("_", "_*", "a*", "(a|_)", "(_|a)", "(a*b*)", "((ab)|_)", "((a|_)(b|_))", "(__)", "(a|b*)",
                     "(ab)*", "[ab]*", "((a|_)b*)"):
            self.is_true(reads_none(read(text)), text)
        for text in ("a", "[ab]", "(ab)", "(a|b)", "(a*b)", "(ab*)", "(_a)", "(a_)", "((a|_)b)", "(a(b|_))",
                     "((a*b*)c)"):
            self.is_false(reads_none(read(text)), text)

    def test_as_the_words_tell(self):
        for pattern in small_patterns():
            self.assertIs(reads_none(pattern), () in marked(pattern, 2))

    def test_where_the_machine_is_refused(self):
        pattern = crowd([8] * 10)
        self.refused(TooMany, {"many": 200}, machine_of, pattern)
        self.is_true(reads_none(pattern))
        self.is_false(reads_none(("then", pattern, A)))
        self.is_true(reads_none(("or", A, pattern)))

    def test_within_the_bounds(self):
        for pattern, _, _, _ in SIZES:
            self.assertIs(reads_none(pattern), re.fullmatch(expression(pattern), "") is not None)
