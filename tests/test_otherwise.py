"""0.4, 11.1: patterns put otherwise."""

import copy
import random

from tests.helper import Case, kept, words
from tests.test_patterns import A, NONE, SIZES, chain, tree
from tests.test_patterntexts import some_pattern
from tests.test_positions import crowd
from triesgrow.errors import TooMany
from triesgrow.fits import fits
from triesgrow.growth import growth
from triesgrow.otherwise import put_otherwise
from triesgrow.patterns import deep_of, is_pattern, leaves_of, parts_of
from triesgrow.patterntexts import read, shown
from triesgrow.positions import machine_of
from triesgrow.sameness import parting
from triesgrow.tries import tries_all
from triesgrow.ways import ways

# Each rule alone, and what it leaves as it is.
RULES = {
    "(_a)": "a", "(a_)": "a", "(__)": "_", "(_(ab))": "(ab)", "((a|b*)_)": "(a|b*)",
    "(a*|a*)": "a*", "((ab)|(ab))": "(ab)", "(_|_)": "_", "((a|b*)|(a|b*))": "(a|b*)",
    "(a|b)": "[ab]", "(b|a)": "[ab]", "(a|a)": "a", "([ab]|[bc])": "[abc]", "([aceg]|[bdfh])": "[abcdefgh]",
    "([abcdefgh]|a)": "[abcdefgh]",
    "(_|a*)": "a*", "(a*|_)": "a*", "(_|(ab)*)": "(ab)*",
    "_*": "_", "a**": "a*", "a***": "a*", "(ab)**": "(ab)*",
    "(_|a)*": "a*", "(a|_)*": "a*", "(_|(ab))*": "(ab)*", "((ab)|_)*": "(ab)*",
    "(a*a*)": "a*", "((ab)*(ab)*)": "(ab)*",
    "((ab)|(ac))": "(a[bc])", "((ab*)|(ac*))": "(a(b*|c*))", "((a(bc))|(ad))": "(a((bc)|d))",
    "((ac)|(bc))": "([ab]c)", "((a*c)|(b*c))": "((a*|b*)c)", "((a*b*)|(a*c*))": "(a*(b*|c*))",
}
SAME = [
    "_", "a", "[ab]", "(ab)", "a*", "(ab)*", "(a|_)", "(_|a)", "((ab)|_)", "(a|b*)", "(a*|b*)", "(a*b*)", "(b*a*)",
    "([abcdefgh]|i)", "([abcd]|[efghi])", "([hijklmno]|[abcdefgh])", "(aa)", "((ab)(ab))", "(a*a)", "(aa*)",
    "((ab)|(cd))", "((ab)|(ba))", "(a*|(ab))", "(a*a)*", "(a(a*b))", "((ab)|(cd))*",
    "((aa)|a)", "(a|(ab))", "((ab)|a)", "(a*b)*", "((a|_)|b*)", "(([abcdefgh]|i)|[jk])",
]
# Several rules, one within another, or one that fits only behind another.
WITHIN = {
    "((_a)|(a_))": "a", "((_|a)*(a|_)*)": "a*", "((a|b)*[ab]*)": "[ab]*", "((_|(_|_))*|a*)": "a*", "((_|a)**|_)": "a*",
    "(((a|b)c)|([ab]d))": "([ab][cd])", "((a(b|c))|(a(c|b)))": "(a[bc])", "((((a|b)|c)|d)|e)": "[abcde]",
    "((__)*(_*|_))": "_", "((ab)|((ac)|(ad)))": "(a[bcd])", "(((ab)|(ac))|(ad))": "(a[bcd])",
    "(((ac)|(bc))|((ad)|(bd)))": "([ab][cd])", "(_(_(_(a_))))": "a", "((a**|_)**(_|a*))": "a*",
    "((a_)|(ab))": "(a|(ab))",
    "((a(b_))|((_a)b))": "(ab)", "(((a|a)|(a|a))|((a|a)|(a|a)))": "a", "((_|(a|_))*|(b_)*)": "(a*|b*)",
}


def texts_of(table):
    return list(table) + list(table.values())


def fitting(pattern):
    """Whether some rule fits, at the pattern itself or at one of those in it."""
    kind, inner = pattern[0], list(pattern[1:])
    if kind in ("none", "sign"):
        return False
    if any(fitting(each) for each in inner):
        return True
    if kind == "again":
        one = inner[0]
        return one == NONE or one[0] == "again" or one[0] == "or" and NONE in one[1:]
    one, other = inner
    if kind == "then":
        return NONE in inner or one == other and one[0] == "again"
    if one == other or one == NONE and other[0] == "again" or other == NONE and one[0] == "again":
        return True
    if one[0] == other[0] == "sign":
        return len(set(one[1] + other[1])) <= 8
    return one[0] == other[0] == "then" and (one[1] == other[1] or one[2] == other[2])


def few_letters(chance, deep):
    """A pattern drawn so that much in it is alike."""
    kind = chance.choice(["none", "a", "a", "b", "ab"] + ["then", "or", "or", "again", "again"] * (deep > 1))
    if kind == "none":
        return NONE
    if kind in ("a", "b", "ab"):
        return "sign", kind
    one = few_letters(chance, deep - 1)
    if kind == "again":
        return kind, one
    return kind, one, chance.choice([one, few_letters(chance, deep - 1), few_letters(chance, deep - 1)])


def drawn(seed, many, deep):
    chance = random.Random(seed)
    told = []
    while len(told) < many:
        pattern = few_letters(chance, chance.randint(2, deep))
        if is_pattern(pattern):
            told.append(pattern)
    return told


class Rules(Case):

    def test_each_alone(self):
        for text, wanted in RULES.items():
            self.same_kinds(put_otherwise(read(text)), read(wanted))
            self.assertTrue(fitting(read(text)), text)

    def test_what_no_rule_fits(self):
        for text in SAME:
            self.assertFalse(fitting(read(text)), text)
            self.same_kinds(put_otherwise(read(text)), read(text))

    def test_within_others(self):
        for text, wanted in RULES.items():
            for around in ("(%sz)", "(z%s)", "((%s|(yz))x)", "(%sy)*", "((x%s)|z*)", "(((%sx)*y)*z)"):
                told = put_otherwise(read(around % text))
                self.same_kinds(told, put_otherwise(read(around % wanted)))
                self.assertFalse(fitting(told))

    def test_several_one_within_another(self):
        for text, wanted in WITHIN.items():
            self.same_kinds(put_otherwise(read(text)), read(wanted))

    def test_eight_letters_together_and_nine(self):
        self.same_kinds(put_otherwise(read("([abcd]|[efgh])")), ("sign", "abcdefgh"))
        self.same_kinds(put_otherwise(read("([abcd]|[defgh])")), ("sign", "abcdefgh"))
        self.same_kinds(put_otherwise(read("([mnop]|[abcd])")), ("sign", "abcdmnop"))
        self.same_kinds(put_otherwise(read("([abcdefgh]|[abcdefgh])")), ("sign", "abcdefgh"))
        for text in ("([abcd]|[efghi])", "([abcdefgh]|i)", "([abcdefgh]|[bcdefghi])", "(z|[abcdefgh])"):
            self.same_kinds(put_otherwise(read(text)), read(text))

    def test_either_where_both_ahead_and_behind_are_alike(self):
        for text in ("((a*b)|(a*b))", "((ab)|(ab))"):
            self.assertFalse(fitting(put_otherwise(read(text))))


class Kept(Case):

    def looked_at(self, pattern, told):
        """What holds of every pattern and of what it becomes."""
        self.is_true(is_pattern(told), told)
        self.assertLessEqual(parts_of(told), parts_of(pattern))
        self.assertLessEqual(leaves_of(told), leaves_of(pattern))
        self.assertLessEqual(deep_of(told), deep_of(pattern))
        self.assertFalse(fitting(told), shown(pattern))
        self.same_kinds(put_otherwise(told), told)
        if not fitting(pattern):
            self.same_kinds(told, pattern)

    def test_words_ways_and_tries(self):
        fewer = 0
        for pattern in drawn(107, 250, 5) + [read(text) for text in texts_of(RULES) + texts_of(WITHIN) + SAME]:
            told = kept(put_otherwise, pattern)
            self.looked_at(pattern, told)
            one, other = machine_of(pattern), machine_of(told)
            signs = "".join(sorted({step[1] for step in one[3]}))
            for word in words(signs, 5 if len(signs) < 3 else 3):
                before, after = ways(one, word), ways(other, word)
                self.assertEqual(before > 0, after > 0, (pattern, word))
                self.assertLessEqual(after, before)
                self.assertLessEqual(tries_all(other, word), tries_all(one, word))
                fewer += after < before
        self.assertGreater(fewer, 200)

    def test_growth_never_rises(self):
        order = {"never": 0, "power": 1, "doubles": 2}
        lowered = 0
        for pattern in drawn(109, 500, 5) + [read(text) for text in WITHIN]:
            before, after = growth(machine_of(pattern)), growth(machine_of(put_otherwise(pattern)))
            self.assertLessEqual((order[after[0]], after[1:]), (order[before[0]], before[1:]))
            lowered += after != before
        self.assertGreater(lowered, 12)

    def test_large_patterns(self):
        chance = random.Random(113)
        seen = 0
        told = [size[0] for size in SIZES] + drawn(127, 100, 9) + [crowd([8] * 10), crowd([4, 4, 4, 4, 3, 3, 3])]
        while len(told) < 300:
            pattern = some_pattern(chance, chance.randint(3, 7))
            if is_pattern(pattern):
                told.append(pattern)
        for pattern in told:
            other = kept(put_otherwise, pattern)
            self.looked_at(pattern, other)
            try:
                self.assertIsNone(parting(machine_of(pattern), machine_of(other)))
                seen += 1
            except TooMany:
                for word in words("abz", 3):
                    self.assertEqual(fits(pattern, word), fits(other, word))
        self.assertGreater(seen, 200)

    def test_steps_never_more(self):
        for pattern in [crowd([4, 4, 4, 4, 3, 3, 3])] + drawn(131, 60, 6):
            self.assertLessEqual(len(machine_of(put_otherwise(pattern))[3]), len(machine_of(pattern)[3]))
        # A pattern whose machine is refused may become one whose machine is not.
        self.same_kinds(put_otherwise(crowd([8] * 10)), ("again", ("sign", "abcdefgh")))
        self.refused(TooMany, {"many": 200}, machine_of, crowd([8] * 10))

    def test_bounds(self):
        self.same_kinds(put_otherwise(tree("or", A, 11)), A)
        self.same_kinds(put_otherwise(tree("then", A, 11)), tree("then", A, 11))
        self.same_kinds(put_otherwise(("again", tree("or", NONE, 20))), NONE)
        self.same_kinds(put_otherwise(tree("then", NONE, 20)), NONE)
        self.same_kinds(put_otherwise(chain(NONE, 11)), NONE)
        self.same_kinds(put_otherwise(chain(A, 11)), ("again", A))
        eleven = tree("then", ("again", A), 11)
        self.assertEqual((leaves_of(eleven), parts_of(eleven)), (11, 32))
        self.assertLess(parts_of(put_otherwise(eleven)), 32)
        deep = read("(((((((((((a|_)b)|_)c)|_)d)|_)e)|_)f)|_)")
        self.assertEqual(deep_of(deep), 12)
        self.same_kinds(put_otherwise(deep), deep)

    def test_what_is_handed_in_stays(self):
        for text in texts_of(RULES):
            pattern = read(text)
            before = copy.deepcopy(pattern)
            put_otherwise(pattern)
            self.assertEqual(pattern, before)

    def test_called_by_name(self):
        self.assertEqual(put_otherwise(pattern=("again", ("again", A))), ("again", A))
