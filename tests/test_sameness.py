"""0.4, 11.2: two machines compared, by a word that just one of them reads, or by a closed table."""

import copy
import random
import time

from tests.helper import (BESIDE, INTO, Case, chain, crowded, growing, kept, machines, moving, no_machines,
                          no_numbers, oddities, ring, words)
from tests.test_rounds import drawn, signs_in
from tests.test_sets import ALL, NINTH, set_by
from triesgrow.errors import NoMachine, NoNumber, Parted, TooMany
from triesgrow.machines import called
from triesgrow.sameness import closed_of, lets_closed, parting
from triesgrow.sets import sets_of
from triesgrow.useful import trimmed
from triesgrow.ways import ways

ANY = (1, [0], [0], [(0, "a", 0), (0, "b", 0)])
NONE_READ = (1, [], [], [])
# Machines of so many sets each.
SETS = {
    400: moving("012345689", "0", a="78045139.6", b="075.389142"),
    401: moving("12345789", "0", a="630857.491", b="543628709."),
    4000: moving("0123456789xy", "0", a="203618.y7x49", b="364y19287x05"),
    4001: moving("1245678xy", "0", a="89043y15276x", b="6405xy.87392"),
}
# Machines that read all words till there is no room left, with so many sets ahead of that.
AHEAD = {
    4000: moving("0124567xy", "0123456789xy", a="9836y4x10752", b="3x578061429."),
    4001: moving("012345679xy", "0123456789xy", a="19507382x4y.", b="6435701y8x92"),
}
# Both read a where a sign ahead of the end was an a: one looks back, and one goes on from what it has seen.
BACK = (3, [0], [2], [(0, "a", 0), (0, "b", 0), (0, "a", 1), (1, "a", 2), (1, "b", 2)])
ONWARD = (4, [0], [2, 3], [(0, "a", 1), (0, "b", 0), (1, "a", 3), (1, "b", 2), (2, "a", 1), (2, "b", 0),
                           (3, "a", 3), (3, "b", 2)])


def signs_of_both(one, other):
    return "".join(sorted(set(signs_in(one) + signs_in(other))))


def pair_by(one, other, word):
    return set_by(one, word), set_by(other, word)


def apart(one, other, pair):
    """Whether just one of the pair's sets has a last."""
    return any(pair[0][room] == "1" for room in one[2]) != any(pair[1][room] == "1" for room in other[2])


def after(machine, text, sign):
    rooms = {other for room, by, other in machine[3] if by == sign and text[room] == "1"}
    return "".join("1" if room in rooms else "0" for room in range(machine[0]))


def pairs_of(one, other):
    """All pairs that are come to, each with its first word, found from pair to pair as words come."""
    told = {pair_by(one, other, ""): ""}
    waiting = list(told)
    for pair in waiting:
        for sign in signs_of_both(one, other):
            nexts = after(one, pair[0], sign), after(other, pair[1], sign)
            if nexts not in told:
                told[nexts] = told[pair] + sign
                waiting.append(nexts)
    return told


def looked_at(one, other, pairs):
    """Whether these pairs are a closed table, as the test looks at it."""
    return pair_by(one, other, "") in pairs and not any(apart(one, other, pair) for pair in pairs) and all(
        (after(one, pair[0], sign), after(other, pair[1], sign)) in pairs
        for pair in pairs for sign in signs_of_both(one, other))


def small():
    return [machine for machine in machines() if machine[0] <= 5] + drawn(137, 12)


def compared():
    """Pairs of machines, many of them alike in what they read."""
    listed = small()
    told = [(one, other) for at, one in enumerate(listed) for other in listed[at % 3::3]]
    chance = random.Random(139)
    for machine in listed + [BACK, ONWARD, INTO, BESIDE, chain(12), crowded()]:
        names = list(range(machine[0]))
        chance.shuffle(names)
        told += [(machine, machine), (machine, called(machine, names)), (trimmed(machine), machine)]
        many, firsts, lasts, steps = machine
        if steps:
            fewer = list(steps)
            del fewer[chance.randrange(len(steps))]
            told.append((machine, (many, firsts, lasts, fewer)))
        if many < 12:
            told.append((machine, (many + 1, firsts + [many], lasts, steps)))
    return told + [(BACK, ONWARD), (ONWARD, BACK), (ANY, NONE_READ), (NONE_READ, (12, [], [0], chain(12)[3]))]


class Parting(Case):

    def test_by_all_words(self):
        counted = {True: 0, False: 0}
        for one, other in compared():
            told = kept(parting, one, other)
            counted[told is None] += 1
            signs = signs_of_both(one, other)
            listed = words(signs, 6 if len(signs) < 3 else 4 if len(signs) < 4 else 2)
            first = next((word for word in listed if (ways(one, word) > 0) != (ways(other, word) > 0)), None)
            if first is not None or told is None or told in listed:
                self.same_kinds(told, first)
            else:
                self.assertNotEqual(ways(one, told) > 0, ways(other, told) > 0)
        self.assertGreater(min(counted.values()), 60)

    def test_from_pair_to_pair(self):
        for one, other in compared():
            listed = [word for pair, word in pairs_of(one, other).items() if apart(one, other, pair)]
            self.same_kinds(parting(one, other), min(listed, key=lambda word: (len(word), word), default=None))

    def test_told(self):
        self.same_kinds(parting(BACK, ONWARD), None)
        self.same_kinds(parting(ANY, NONE_READ), "")
        self.same_kinds(parting((2, [0], [1], [(0, "b", 1)]), (2, [0], [1], [(0, "c", 1)])), "b")
        self.same_kinds(parting((2, [0], [1], [(0, "c", 1)]), (2, [0], [1], [(0, "b", 1)])), "b")
        self.same_kinds(parting((2, [0], [1], [(0, "z", 1)]), (2, [0], [1], [])), "z")
        self.same_kinds(parting(chain(3), chain(4)), "aa")
        self.same_kinds(parting(ANY, (1, [0], [0], [(0, "a", 0), (0, "b", 0), (0, "c", 0)])), "c")
        self.same_kinds(parting(NONE_READ, (3, [], [], [])), None)
        self.same_kinds(parting((1, [0], [0], []), (1, [0], [0], [])), None)
        self.same_kinds(parting((12, [0], [11], chain(12)[3]), (12, [0], [11], chain(12)[3][:-1])), "a" * 11)

    def test_long_words(self):
        one = (12, [0, 5], [0, 1, 2, 3, 5, 6, 7, 8, 9, 10], ring(list(range(5)), "a") + ring(list(range(5, 12)), "a"))
        self.same_kinds(parting(one, (1, [0], [0], [(0, "a", 0)])), "a" * 34)
        told = parting(AHEAD[4000], ANY)
        self.assertEqual(set_by(AHEAD[4000], told), "0" * 12)
        self.assertEqual(told, pairs_of(AHEAD[4000], ANY)["0" * 12, "1"])

    def test_4000_pairs_ahead_and_one_more(self):
        for many, machine in AHEAD.items():
            listed = list(pairs_of(machine, ANY))
            self.assertEqual([apart(machine, ANY, pair) for pair in listed].index(True), many)
        for one, other in ((AHEAD[4000], ANY), (ANY, AHEAD[4000])):
            self.assertEqual(len(parting(one, other)), 22)
            self.refused(Parted, {"word": parting(one, other)}, closed_of, one, other, 1)
        for one, other in ((AHEAD[4001], ANY), (ANY, AHEAD[4001]), (ALL, ALL)):
            self.refused(TooMany, {"many": 4000}, parting, one, other)

    def test_4000_pairs_at_all_and_one_more(self):
        for many, machine in SETS.items():
            self.assertEqual(len(sets_of(machine, 4096)), many)
            if many <= 4000:
                self.same_kinds(parting(machine, machine), None)
            else:
                self.refused(TooMany, {"many": 4000}, parting, machine, machine)

    def test_signs_that_just_one_has(self):
        one = (2, [0], [0, 1], [(0, "a", 1), (1, "b", 0)])
        other = (3, [0], [0, 1], [(0, "a", 1), (1, "b", 0), (0, "c", 2), (2, "d", 2)])
        self.same_kinds(parting(one, other), None)
        self.assertIn(("00", "001"), closed_of(one, other))
        self.assertIn(("001", "00"), closed_of(other, one))
        self.same_kinds(parting(one, (3, [0], [0, 1, 2], other[3])), "c")

    def test_thousands_of_pairs_of_two_machines_in_good_time(self):
        begin = time.monotonic()
        letters = "abcdefghijklm"
        many, firsts, lasts, steps = SETS[4000]
        spread = [(room, sign, other) for room, sign, other in steps]
        spread += [(room, sign, room) for sign in letters[2:] for room in range(12)]
        names = [11, 3, 7, 0, 1, 10, 9, 2, 4, 8, 6, 5]
        one = (many, firsts, lasts, spread)
        self.assertLess(len(spread), 200)
        self.assertIsNone(parting(one, called(one, names)))
        table = closed_of(one, called(one, names), 4000)
        self.assertEqual(len(table), 4000)
        self.is_true(lets_closed(one, called(one, names), table))
        del table[2345]
        self.is_false(lets_closed(one, called(one, names), table))
        self.assertLess(time.monotonic() - begin, 20)


class Closed(Case):

    def test_the_least_table_as_the_test_finds_it(self):
        seen = 0
        for one, other in compared():
            word = parting(one, other)
            if word is None:
                seen += 1
                listed = sorted(pairs_of(one, other))
                told = kept(closed_of, one, other, max(400, len(listed)))
                self.same_kinds(told, listed)
                self.is_true(lets_closed(one, other, told))
            else:
                self.refused(Parted, {"word": word}, closed_of, one, other)
                self.refused(Parted, {"word": word}, closed_of, one, other, 1)
                self.is_false(lets_closed(one, other, sorted(pairs_of(one, other))))
        self.assertGreater(seen, 60)

    def test_told(self):
        self.same_kinds(closed_of(NONE_READ, NONE_READ), [("0", "0")])
        self.same_kinds(closed_of((1, [0], [0], []), (2, [0, 1], [1], [])), [("1", "11")])
        self.same_kinds(closed_of((2, [0], [1], [(0, "a", 1)]), (2, [1], [0], [(1, "a", 0)])), [
            ("00", "00"), ("01", "10"), ("10", "01")])
        self.same_kinds(closed_of(BACK, ONWARD), [
            ("100", "1000"), ("101", "0010"), ("110", "0100"), ("111", "0001")])

    def test_so_many_pairs_and_one_more(self):
        for many, machine in SETS.items():
            if many <= 4000:
                self.assertEqual(len(closed_of(machine, machine, many)), many)
            for most in (1, 399, many - 1):
                if most < many:
                    self.refused(TooMany, {"many": most}, closed_of, machine, machine, most)
        # Where parting itself is refused the value is most as well.
        for most in (1, 77, 400, 3999, 4000):
            self.refused(TooMany, {"many": most}, closed_of, SETS[4001], SETS[4001], most)
            self.refused(TooMany, {"many": most}, closed_of, AHEAD[4001], ANY, most)
            self.refused(TooMany, {"many": most}, closed_of, ALL, ALL, most)

    def test_left_out_it_is_400(self):
        self.assertEqual(len(closed_of(SETS[400], SETS[400])), 400)
        self.refused(TooMany, {"many": 400}, closed_of, SETS[401], SETS[401])
        self.refused(TooMany, {"many": 400}, closed_of, NINTH, NINTH)
        self.refused(TooMany, {"many": 400}, closed_of, ALL, ALL)

    def test_order_of_refusals(self):
        for thing in no_numbers(1, 4000):
            for one, other in ((BACK, ONWARD), (ANY, NONE_READ), (ALL, ALL)):
                self.refused(NoNumber, {"number": thing}, closed_of, one, other, thing)
                self.refused(NoNumber, {"number": thing}, closed_of, one=one, other=other, most=thing)
        for thing, part, number in no_machines() + [(thing, "machine", None) for thing in oddities()]:
            values = {"part": part, "number": number}
            for handed in ((thing, BACK), (BACK, thing), (thing, (1, [], [], {}))):
                self.refused(NoMachine, values, parting, *handed)
                self.refused(NoMachine, values, closed_of, *handed)
                self.refused(NoMachine, values, closed_of, *handed, 0)
                self.refused(NoMachine, values, lets_closed, *handed, [])
                self.refused(NoMachine, values, lets_closed, *handed, None)

    def test_the_first_one_ahead(self):
        for call in (parting, closed_of, lambda one, other: lets_closed(one, other, [])):
            self.refused(NoMachine, {"part": "many", "number": None}, call, (0, [], [], []), None)
            self.refused(NoMachine, {"part": "machine", "number": None}, call, None, (0, [], [], []))
            self.refused(NoMachine, {"part": "many", "number": None}, call, BACK, (0, [], [], []))

    def test_told_lists_are_the_askers_own(self):
        before = copy.deepcopy((BACK, ONWARD))
        told = closed_of(BACK, ONWARD)
        told.append("changed")
        self.assertEqual(closed_of(BACK, ONWARD), told[:-1])
        self.assertEqual((BACK, ONWARD), before)


class LetBy(Case):

    def test_tables_with_one_thing_put_otherwise(self):
        chance = random.Random(149)
        counted = {True: 0, False: 0}
        for one, other in compared():
            listed = sorted(pairs_of(one, other))
            for _ in range(8 if len(listed) < 60 else 1):
                pairs = list(listed)
                which = chance.randrange(5)
                if which == 0:
                    del pairs[chance.randrange(len(pairs))]
                elif which == 1:
                    pairs.insert(chance.randrange(len(pairs) + 1), chance.choice(pairs))
                elif which == 2:
                    chance.shuffle(pairs)
                elif which == 3:
                    pairs.append(tuple("".join(chance.choice("01") for _ in range(machine[0]))
                                       for machine in (one, other)))
                else:
                    at = chance.randrange(len(pairs))
                    pairs[at] = pairs[at][0], pairs[at][1][:-1] + chance.choice("01")
                wanted = looked_at(one, other, pairs)
                self.assertIs(kept(lets_closed, one, other, pairs), wanted, (one, other, pairs))
                counted[wanted] += 1
        self.assertGreater(min(counted.values()), 200)

    def test_more_pairs_than_the_least(self):
        table = closed_of(BACK, ONWARD)
        self.is_true(lets_closed(BACK, ONWARD, table[::-1]))
        self.is_true(lets_closed(BACK, ONWARD, table + table))
        self.is_true(lets_closed(BACK, ONWARD, table + [("000", "0000")]))
        self.is_false(lets_closed(BACK, ONWARD, table + [("001", "0000")]))
        self.is_false(lets_closed(BACK, ONWARD, table + [("000", "1000")]))
        self.is_false(lets_closed(BACK, ONWARD, []))
        self.is_false(lets_closed(BACK, ONWARD, [("000", "0000")]))
        for at in range(len(table)):
            self.is_false(lets_closed(BACK, ONWARD, table[:at] + table[at + 1:]))
        self.is_false(lets_closed(ONWARD, BACK, table))

    def test_things_of_every_kind(self):
        lone = (1, [0], [0], [])
        for one, other in ((lone, lone), (BACK, ONWARD), (NONE_READ, NONE_READ)):
            for thing in oddities() + [None, [[]], ["1", "1"], [("1",)], [(1, 1)]]:
                self.is_false(lets_closed(one, other, thing), thing)
                self.is_false(lets_closed(one, other, [thing]), thing)
        self.is_true(lets_closed(lone, lone, [("1", "1")]))
        for thing in oddities():
            self.is_false(lets_closed(lone, lone, [("1", "1"), thing]), thing)
            self.is_false(lets_closed(lone, lone, [("1", "1"), ("0", thing)]) and thing != "0", thing)
            self.is_false(lets_closed(lone, lone, [("1", "1"), (thing, thing)]) and thing != "0", thing)
        for thing in ([["1", "1"]], (("1", "1"),), [("1", "1", "1")], [("1", "")], [("11", "1")], [("1", "2")],
                      {("1", "1"): 1}, {("1", "1")}, iter([("1", "1")]), [("1", "1 ")], [(b"1", "1")], "11",
                      [("1", ["1"])], [(1, "1")], [("1", True)], [("1", "1"), None]):
            self.is_false(lets_closed(lone, lone, thing), thing)

    def test_by_which_both_read_the_same_words(self):
        chance = random.Random(151)
        seen = 0
        for one, other in compared():
            rooms = [["".join(chance.choice("01") for _ in range(machine[0])) for _ in range(3)]
                     for machine in (one, other)]
            pairs = sorted(pairs_of(one, other))[:50] + list(zip(*rooms))
            if lets_closed(one, other, pairs):
                seen += 1
                for word in words(signs_of_both(one, other)[:3], 4):
                    self.assertEqual(ways(one, word) > 0, ways(other, word) > 0)
        self.assertGreater(seen, 2)

    def test_called_by_name(self):
        self.assertEqual(parting(one=BACK, other=ONWARD), None)
        self.assertEqual(parting(other=chain(4), one=chain(3)), "aa")
        self.assertEqual(closed_of(one=NONE_READ, other=NONE_READ, most=1), [("0", "0")])
        self.is_true(lets_closed(thing=[("0", "0")], other=NONE_READ, one=NONE_READ))
        self.refused(TooMany, {"many": 4000}, parting, ALL, other=ALL)

    def test_machines_of_all_manners(self):
        for machine, _ in growing():
            self.same_kinds(parting(machine, machine), None)
            self.is_true(lets_closed(machine, machine, closed_of(machine, machine, 4000)))
