"""0.2 and 1.1: words, and what is a pattern and how large it is."""

import copy

from tests.helper import Case, oddities
from triesgrow.patterns import deep_of, is_pattern, is_word, leaves_of, parts_of

NONE = ("none",)
A = ("sign", "a")


def tree(kind, end, many):
    """A shallow pattern with so many ends."""
    if many == 1:
        return end
    return kind, tree(kind, end, many // 2), tree(kind, end, many - many // 2)


def chain(pattern, many):
    """Again of again of .. the pattern, so many times."""
    for _ in range(many):
        pattern = ("again", pattern)
    return pattern


def slope(kind, many):
    """A pattern that holds another one on one side, so many times."""
    pattern = A
    for at in range(many):
        pattern = (kind, pattern, NONE) if at % 2 else (kind, NONE, pattern)
    return pattern


# Patterns, each with how many leaves and parts it has, and its depth.
SIZES = [
    (NONE, 0, 1, 1),
    (A, 1, 1, 1),
    (("sign", "z"), 1, 1, 1),
    (("sign", "abcdefgh"), 1, 1, 1),
    (("sign", "stuvwxyz"), 1, 1, 1),
    (("again", NONE), 0, 2, 2),
    (("again", A), 1, 2, 2),
    (("then", A, NONE), 1, 3, 2),
    (("or", A, A), 2, 3, 2),
    (("then", ("again", ("or", A, NONE)), ("sign", "bc")), 2, 6, 4),
    (("or", A, ("then", A, ("again", ("again", A)))), 3, 7, 5),
    (("or", ("then", A, ("again", ("again", A))), A), 3, 7, 5),
    (tree("then", A, 11), 11, 21, 5),
    (tree("or", NONE, 20), 0, 39, 6),
    (("again", tree("or", NONE, 20)), 0, 40, 7),
    (("or", tree("then", A, 11), chain(tree("or", NONE, 9), 1)), 11, 40, 7),
    (("then", NONE, ("then", tree("or", A, 11), NONE)), 11, 25, 7),
    (chain(NONE, 11), 0, 12, 12),
    (chain(A, 11), 1, 12, 12),
    (slope("then", 11), 1, 23, 12),
    (slope("or", 11), 1, 23, 12),
]
BEYOND = [
    tree("then", A, 12),
    tree("or", A, 12),
    ("again", tree("or", A, 12)),
    ("then", NONE, ("then", tree("or", A, 12), NONE)),
    tree("or", NONE, 21),
    ("again", ("again", tree("then", NONE, 20))),
    ("or", tree("then", A, 11), chain(tree("or", NONE, 9), 2)),
    chain(NONE, 12),
    chain(A, 12),
    slope("then", 12),
    slope("or", 12),
    chain(A, 30),
]
WRONG = [
    ("none", NONE), ("none", None), ["none"], "none", (None,), ("None",), ("NONE",), ("",), (), ("none", "a"),
    ("sign",), ("sign", ""), ("sign", "abcdefghi"), ("sign", "ba"), ("sign", "aa"), ("sign", "aab"), ("sign", "abb"),
    ("sign", "A"), ("sign", "aB"), ("sign", "a "), ("sign", " "), ("sign", "_"), ("sign", "{"), ("sign", "`"),
    ("sign", "1"), ("sign", "a", "b"), ("sign", A), ("sign", ["a"]), ("sign", ("a",)), ("sign", ("a", "b")),
    ("sign", b"a"), ("sign", {"a": 1}), ["sign", "a"], ("sign", "acb"), ("sign", "a\n"),
    ("then", A), ("then",), ("then", A, A, A), ["then", A, A], ("or", A), ("or", A, A, A), ["or", A, A],
    ("again",), ("again", A, A), ["again", A], ("Again", A), ("again", "a"), ("again", ["none"]), ("again", "none"),
    ("then", A, "a"), ("or", "a", A), ("and", A, A), ("plus", A), (A,), (A, A), (("none",),), ("sign", "a", None),
]


def places_of(thing):
    """All places within the tuple at which something stands, each as the list of numbers that leads there."""
    told = [[]]
    if isinstance(thing, tuple):
        for at, inner in enumerate(thing):
            told.extend([at, *place] for place in places_of(inner))
    return told


def put(thing, place, other):
    """The thing with another one at this place."""
    if not place:
        return other
    at, *rest = place
    return thing[:at] + (put(thing[at], rest, other),) + thing[at + 1:]


def at_place(thing, place):
    for at in place:
        thing = thing[at]
    return thing


class Words(Case):

    def test_words(self):
        for word in ("", "a", "z", "az", "zzz", "hello", "abcdefghijklmnopqrstuvwxyz", "b" * 399, "c" * 400):
            self.is_true(is_word(word), word)

    def test_no_words(self):
        others = ["A", "aB", "a b", " ", "a\n", "\na", "_", "`", "{", "0", "a1", "-", "a" * 401, "a" * 20000,
                  "a" * 399 + "A", "A" + "a" * 399, "a" * 400 + "A", "a\t", "~"]
        for thing in others:
            self.is_false(is_word(thing), thing)

    def test_things_of_other_kinds_are_no_words(self):
        for thing in oddities():
            if not isinstance(thing, str):
                self.is_false(is_word(thing), thing)
        for thing in (["a"], ("a", "b"), {"a": "b"}, {"a"}, b"abc"):
            self.is_false(is_word(thing), thing)

    def test_called_by_name(self):
        self.is_true(is_word(thing="a"))


class Patterns(Case):

    def test_patterns_within_the_bounds(self):
        for pattern, _, _, _ in SIZES:
            self.is_true(is_pattern(pattern), pattern)

    def test_sizes(self):
        for pattern, leaves, parts, deep in SIZES:
            self.same_kinds((leaves_of(pattern), parts_of(pattern), deep_of(pattern)), (leaves, parts, deep))

    def test_each_sign_is_a_letter(self):
        for code in range(32, 127):
            letter = chr(code)
            wanted = letter in "abcdefghijklmnopqrstuvwxyz"
            self.assertIs(is_pattern(("sign", letter)), wanted)
            self.assertIs(is_word(letter), wanted)

    def test_letters_rise(self):
        for one in "abyz":
            for other in "abyz":
                self.assertIs(is_pattern(("sign", one + other)), one < other)

    def test_patterns_beyond_the_bounds(self):
        for thing in BEYOND:
            self.is_false(is_pattern(thing), thing)

    def test_many_within_one_another(self):
        thing = A
        for _ in range(38):
            thing = ("or", thing, thing)
        self.is_false(is_pattern(thing))

    def test_wrong_forms(self):
        for thing in WRONG:
            self.is_false(is_pattern(thing), thing)
            self.is_false(is_pattern(("again", thing)), thing)
            self.is_false(is_pattern(("then", A, thing)), thing)
            self.is_false(is_pattern(("or", thing, A)), thing)

    def test_things_of_every_kind_at_each_place(self):
        whole = ("then", ("again", ("or", A, NONE)), ("or", ("sign", "bc"), ("again", NONE)))
        self.is_true(is_pattern(whole))
        for place in places_of(whole):
            stands = at_place(whole, place)
            at_letters = stands in ("a", "bc")
            for thing in oddities():
                if isinstance(thing, str) and (thing == stands or at_letters and thing in ("a", "abc")):
                    continue
                self.is_false(is_pattern(put(whole, place, thing)), (place, thing))

    def test_tuples_longer_shorter_or_as_lists_at_each_place(self):
        whole = ("or", ("then", A, NONE), ("again", ("sign", "xyz")))
        for place in places_of(whole):
            inner = at_place(whole, place)
            if isinstance(inner, tuple):
                for thing in (inner + (None,), inner + (A,), inner[:-1], list(inner), (inner,), inner[::-1] + ("",)):
                    self.is_false(is_pattern(put(whole, place, thing)), (place, thing))

    def test_what_is_handed_in_stays(self):
        for thing in (["none"], ("again", ["sign", "a"]), {"a": [1]}, SIZES[9][0]):
            before = copy.deepcopy(thing)
            is_pattern(thing)
            is_word(thing)
            self.assertEqual(thing, before)

    def test_called_by_name(self):
        self.is_true(is_pattern(thing=A))
        self.assertEqual((leaves_of(pattern=A), parts_of(pattern=A), deep_of(pattern=A)), (1, 1, 1))
