"""1.2: the texts of patterns, and the reading of any text."""

import random
import re

from tests.helper import Case, oddities
from tests.test_patterns import A, BEYOND, NONE, SIZES, chain, tree
from triesgrow.errors import NoPattern
from triesgrow.patterns import deep_of, is_pattern, leaves_of, parts_of
from triesgrow.patterntexts import read, shown

TEXTS = {
    "_": NONE,
    "a": A,
    "z": ("sign", "z"),
    "[az]": ("sign", "az"),
    "[yz]": ("sign", "yz"),
    "[abc]": ("sign", "abc"),
    "[abcdefgh]": ("sign", "abcdefgh"),
    "[stuvwxyz]": ("sign", "stuvwxyz"),
    "a*": ("again", A),
    "_*": ("again", NONE),
    "a**": ("again", ("again", A)),
    "[ab]*": ("again", ("sign", "ab")),
    "(ab)": ("then", A, ("sign", "b")),
    "(a|b)": ("or", A, ("sign", "b")),
    "(ab)*": ("again", ("then", A, ("sign", "b"))),
    "(a|b)*": ("again", ("or", A, ("sign", "b"))),
    "(a*b)": ("then", ("again", A), ("sign", "b")),
    "(ab*)": ("then", A, ("again", ("sign", "b"))),
    "(a|b*)": ("or", A, ("again", ("sign", "b"))),
    "(a*|b)": ("or", ("again", A), ("sign", "b")),
    "(_|(ab))": ("or", NONE, ("then", A, ("sign", "b"))),
    "((ab)|_)": ("or", ("then", A, ("sign", "b")), NONE),
    "((a|b)a)": ("then", ("or", A, ("sign", "b")), A),
    "(a(b|a))": ("then", A, ("or", ("sign", "b"), A)),
    "((a|[bc]*)*(_x)**)": ("then", ("again", ("or", A, ("again", ("sign", "bc")))),
                           ("again", ("again", ("then", NONE, ("sign", "x"))))),
}
SIGNS = "_abhiz[]()|*PAZ`{0 ~\t\n,"


def whole_put(text):
    """The text with each whole pattern in it put as one P, again and again."""
    text = re.sub(r"[^_a-z\[\]()|*]", "!", text)
    text = re.sub(r"\[([a-z]{2,8})\]", lambda found: "P" if rises(found[1]) else found[0], text)
    # Letters in a bracket that isn't whole stay as they are.
    head, bracket, tail = text.partition("[")
    head = re.sub(r"[_a-z]", "P", head)
    while True:
        shorter = re.sub(r"P\*|\(P\|?P\)", "P", head)
        if shorter == head:
            return head + bracket + tail
        head = shorter


def rises(letters):
    return list(letters) == sorted(set(letters))


def can_be_gone_on_with(text):
    """Whether some text that writes something whole begins with this one."""
    found = re.fullmatch(r"((?:\((?:P\|?)?)*)(P|\[[a-z]{0,8})?", whole_put(text))
    if not found:
        return False
    last = found[2] or ""
    if not last.startswith("["):
        return True
    # A bracket opens where one more pattern can stand: found by putting a whole one there.
    return rises(last[1:]) and last != "[z"


def fault_of(text):
    """The number of the first sign that can't stand, or the text's length."""
    at = 0
    while at < len(text) and can_be_gone_on_with(text[:at + 1]):
        at += 1
    return at


def some_pattern(chance, deep):
    kinds = ["none", "sign", "sign"] + ["then", "or", "again"] * (deep > 1)
    kind = chance.choice(kinds)
    if kind == "none":
        return NONE
    if kind == "sign":
        letters = chance.sample("abcdefghijklmnopqrstuvwxyz", chance.randint(1, 8))
        return "sign", "".join(sorted(letters))
    return (kind, *[some_pattern(chance, deep - 1) for _ in range(1 if kind == "again" else 2)])


class Texts(Case):

    def test_shown(self):
        for text, pattern in TEXTS.items():
            self.same_kinds(shown(pattern), text)

    def test_read(self):
        for text, pattern in TEXTS.items():
            self.same_kinds(read(text), pattern)

    def test_shown_and_read_again(self):
        chance = random.Random(1)
        told = [some_pattern(chance, chance.randint(1, 7)) for _ in range(400)] + [size[0] for size in SIZES]
        for pattern in told:
            if is_pattern(pattern):
                self.same_kinds(read(shown(pattern)), pattern)

    def test_called_by_name(self):
        self.assertEqual(shown(pattern=A), "a")
        self.assertEqual(read(text="a"), A)
        self.refused(NoPattern, {"at": 1}, read, text="(")

    def test_what_is_no_text(self):
        for thing in oddities() + [A, ["a"], ("a",), b"(ab)"]:
            if not isinstance(thing, str):
                self.refused(NoPattern, {"at": None}, read, thing)


class Faults(Case):

    def looked_at(self, text):
        """The reading of the text is held against the one that reduces texts."""
        if whole_put(text) == "P":
            pattern = read(text)
            self.assertEqual(shown(pattern), text)
            self.is_true(is_pattern(pattern), text)
        else:
            self.refused(NoPattern, {"at": fault_of(text)}, read, text)

    def test_told_faults(self):
        faults = {
            "": 0, "*": 0, ")": 0, "|": 0, "]": 0, "A": 0, " ": 0, "\n": 0, "P": 0, "0": 0, "`": 0, "{": 0, "()": 1,
            "(": 1, "(a": 2, "(a|": 3, "(ab": 3, "(a|b": 4, "(a)": 2, "(a|)": 3, "(|a)": 1, "(a||b)": 3, "(*)": 1,
            "(a|*)": 3, "(ab|c)": 3, "(a|b|c)": 4, "(a|bc)": 4, "(abc)": 3, "ab": 1, "a|b": 1, "a)": 1, "a]": 1,
            "a(": 1, "_a": 1, "a_": 1, "a*b": 2, "(ab)c": 4, "(ab))": 4, "a**)": 3, "a b": 1, " a": 0, "a ": 1,
            "a\n": 1, "[": 1, "[]": 1, "[a": 2, "[a]": 2, "[ab": 3, "[z": 1, "[zz]": 1, "[z]": 1, "[az": 3, "[azz": 3,
            "[az]]": 4, "[ba]": 2, "[aa]": 2, "[aab]": 2, "[abb]": 3, "[a b]": 2, "[A": 1, "[aB]": 2, "[_a]": 1,
            "[a*]": 2, "[a|b]": 2, "[[ab]": 1, "[(ab)]": 1, "[abcdefghi]": 9, "[abcdefgh": 9, "[abcdefghh]": 9,
            "[abcdefghz]": 9, "[ab]c": 4, "([ab]": 5, "([ab": 4, "([z": 2, "(a[": 3, "(a[z": 3, "(a|[b": 5,
            "(a|[b]": 5, "((((": 4, "((a|b)": 6, "(a(": 3, "(P)": 1, "(aP)": 2, "a*P": 2, "(a|b)P": 5, "ab*": 1,
        }
        for text, at in faults.items():
            self.refused(NoPattern, {"at": at}, read, text)
            self.assertEqual(fault_of(text), at, text)

    def test_texts_cut_short(self):
        for text in TEXTS:
            for length in range(len(text) + 1):
                self.looked_at(text[:length])
                self.looked_at(text[length:])

    def test_a_sign_left_out(self):
        for text in TEXTS:
            for at in range(len(text)):
                self.looked_at(text[:at] + text[at + 1:])

    def test_a_sign_put_in(self):
        for text in TEXTS:
            for at in range(len(text) + 1):
                for sign in SIGNS:
                    self.looked_at(text[:at] + sign + text[at:])

    def test_a_sign_exchanged(self):
        for text in TEXTS:
            for at in range(len(text)):
                for sign in SIGNS:
                    self.looked_at(text[:at] + sign + text[at + 1:])

    def test_all_short_texts(self):
        texts = [""]
        for text in texts:
            self.looked_at(text)
            if len(text) < 4:
                texts.extend(text + sign for sign in "_az[]()|*")


class Bounds(Case):

    def test_within_them(self):
        for pattern, leaves, parts, deep in SIZES:
            told = read(shown(pattern))
            self.assertEqual(told, pattern)
            self.assertEqual((leaves_of(told), parts_of(told), deep_of(told)), (leaves, parts, deep))

    def test_beyond_them(self):
        for pattern in BEYOND:
            self.refused(NoPattern, {"at": None}, read, shown(pattern))

    def test_a_fault_goes_ahead_of_the_bounds(self):
        for pattern in BEYOND:
            text = shown(pattern)
            self.refused(NoPattern, {"at": len(text)}, read, text + "a")
            self.refused(NoPattern, {"at": len(text)}, read, text + ")")
            self.refused(NoPattern, {"at": len(text) + 1}, read, "(" + text)
            self.refused(NoPattern, {"at": len(text) + 2}, read, "(" + text + "|")
            self.refused(NoPattern, {"at": len(text) + 1}, read, "(" + text + ")")

    def test_a_sign_beyond_the_bounds_can_stand(self):
        text = shown(tree("then", A, 11))
        self.refused(NoPattern, {"at": None}, read, f"({text}b)")
        self.refused(NoPattern, {"at": None}, read, f"({text}|[bc])")
        self.assertEqual(read(f"({text}_)")[2], NONE)
        self.refused(NoPattern, {"at": None}, read, shown(chain(A, 11)) + "*")

    def test_thousands_of_brackets(self):
        many = 6000
        faults = {
            "(" * many: many,
            "(" * many + ")": many,
            "(" * many + "a": many + 1,
            "(" * many + "a)": many + 1,
            "(" * many + "a*|b)!": many + 5,
            "(" * many + "[z": many + 1,
            "(a" * many: 2 * many,
            "(a|" * many + ")": 3 * many,
            "(a" * many + "b" + ")" * (many - 1): 3 * many,
            "(a" * many + "b" + ")" * many + ")": 3 * many + 1,
            "(a" * many + "b" + "*)" * many: None,
            "(a|" * (many // 2) + "b" + ")" * (many // 2): None,
            "(" * many + "a" + "b)" * many: None,
            "(" * many + "a" + "b)" * many + "c": 3 * many + 1,
            "a" + "*" * 3 * many: None,
            "a" + "*" * 3 * many + "]": 3 * many + 1,
            "[" * many: 1,
            ")" * many: 0,
            "(a" * many + "|" * many: 2 * many + 1,
        }
        for text, at in faults.items():
            self.refused(NoPattern, {"at": at}, read, text)
