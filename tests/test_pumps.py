"""0.4, 9.2: pumps, who lets them by, and what comes of laying them."""

import copy
import random
import time

from tests.helper import (BESIDE, INTO, RINGS, Case, chain, crowded, few_by_pairs, growing, kept, led_to, machines,
                          no_machines, no_numbers, oddities, useful_rooms, words)
from tests.test_rounds import THREE, TURNS, drawn
from triesgrow.errors import NoMachine, NoNumber, TooMany
from triesgrow.growth import growth
from triesgrow.pumps import laid, least_ways, lets_pump, pump_of
from triesgrow.rounds import double_rounds, led_rounds
from triesgrow.useful import text_between
from triesgrow.ways import ways

# One pump of each kind, whatever machine it is of.
DOUBLE = (["b", "aa", "c"], [(0, 0)])
LED = (["", "a", ""], [(0, 1)])
BOTH = (["x", "ab", "y", "c", "z"], [(3, 3), (4, 5)])


def all_machines():
    return [machine for machine, _ in growing()] + machines() + drawn(47, 60) + [THREE, TURNS]


def lets_by(machine, pump):
    """Whether a thing that is formed as a pump is one of the machine, as the test looks at it."""
    texts, rounds = pump
    _, firsts, lasts, _ = machine
    begins = set(firsts)
    for at, (room, other) in enumerate(rounds):
        ahead = few_by_pairs(machine, texts[2 * at])
        middle = few_by_pairs(machine, texts[2 * at + 1])
        leads = [middle.get(pair, 0) for pair in ((room, room), (room, other), (other, other))]
        if not texts[2 * at + 1] or not any((begin, room) in ahead for begin in begins) or 0 in leads:
            return False
        if room == other and leads[0] < 2:
            return False
        begins = {other}
    behind = few_by_pairs(machine, texts[-1])
    return any((begin, last) in behind for begin in begins for last in lasts)


def least_by_hand(rounds, many):
    told = 1
    for room, other in rounds:
        told *= 2 ** many if room == other else many
    return told


def put_otherwise(pump, machine, chance):
    """The pump with one thing put otherwise, formed as a pump still."""
    texts, rounds = copy.deepcopy(pump)
    which = chance.randrange(4)
    at = chance.randrange(len(texts))
    signs = sorted({step[1] for step in machine[3]}) + ["z"]
    if which == 0:
        texts[at] += chance.choice(signs)
    elif which == 1:
        texts[at] = "".join(chance.choice(signs) for _ in range(chance.randint(0, 3)))
    elif which == 2:
        texts[at] = texts[at][1:]
    else:
        at = chance.randrange(len(rounds))
        rounds[at] = chance.choice([(chance.randrange(machine[0]), rounds[at][1]), rounds[at][::-1],
                                    (rounds[at][0], chance.randrange(machine[0]))])
    return texts, rounds


class Told(Case):

    def test_as_ways_grow(self):
        seen = set()
        for machine in all_machines():
            told = kept(pump_of, machine)
            how = growth(machine)
            seen.add(how)
            if how == ("never",):
                self.same_kinds(told, None)
                continue
            self.is_true(lets_pump(machine, told), told)
            self.assertTrue(lets_by(machine, told))
            rounds = told[1]
            if how == ("doubles",):
                self.assertEqual(len(rounds), 1)
                self.assertEqual(rounds[0][0], rounds[0][1])
            else:
                self.assertEqual(len(rounds), how[1])
                self.assertTrue(all(room != other for room, other in rounds))
        self.assertEqual(seen, {("doubles",), ("never",), *[("power", power) for power in range(1, 12)]})

    def test_middles_and_the_words_between(self):
        for machine in all_machines():
            told = pump_of(machine)
            if told is None:
                continue
            texts, rounds = told
            doubles = {(room, room, word) for room, word in double_rounds(machine)}
            middles = doubles or set(led_rounds(machine))
            for at, (room, other) in enumerate(rounds):
                self.assertIn((room, other, texts[2 * at + 1]), middles)
                if at:
                    self.assertEqual(texts[2 * at], text_between(machine, rounds[at - 1][1], room))
            ahead = [text_between(machine, first, rounds[0][0]) for first in machine[1]]
            self.assertEqual(len(texts[0]), min(len(text) for text in ahead if text is not None))
            self.assertIn(texts[0], ahead)
            behind = [text_between(machine, rounds[-1][1], last) for last in machine[2]]
            self.assertEqual(len(texts[-1]), min(len(text) for text in behind if text is not None))
            self.assertIn(texts[-1], behind)

    def test_chains(self):
        for many in range(2, 13):
            self.same_kinds(pump_of(chain(many)), (
                ["", "a"] * (many - 1) + [""], [(room, room + 1) for room in range(many - 1)]))
        self.same_kinds(pump_of(chain(1)), None)
        self.same_kinds(pump_of((1, [], [], [])), None)
        self.same_kinds(pump_of(BESIDE), (["", "a", ""], [(0, 1)]))

    def test_shortest_words_of_several_firsts_and_lasts(self):
        steps = [(0, "a", 0), (0, "a", 1), (1, "a", 1)]
        ahead = [(2, "b", 3), (3, "c", 0), (4, "d", 0)]
        behind = [(1, "e", 5), (5, "f", 6), (1, "g", 7)]
        self.same_kinds(pump_of((8, [2, 4], [6, 7], steps + ahead + behind)), (["d", "a", "g"], [(0, 1)]))
        self.same_kinds(pump_of((8, [2], [6], steps + ahead + behind)), (["bc", "a", "ef"], [(0, 1)]))

    def test_rounds_that_follow_one_another(self):
        def led(room, other):
            return [(room, "a", room), (room, "a", other), (other, "a", other)]

        # A pair beside, the first one as rooms go, leads to the end of the chain, but not to the rooms ahead.
        for beside in ([], [(1, "b", 4)], [(1, "c", 4), (0, "c", 4)]):
            machine = (5, [0, 2], [1, 4], led(0, 1) + led(2, 3) + led(3, 4)[1:] + beside)
            self.same_kinds(pump_of(machine), (["", "a", "", "a", ""], [(2, 3), (3, 4)]))
        # From the first pair the third one is nearer than the second.
        machine = (7, [0], [5], led(0, 1) + led(2, 3) + led(4, 5) + [
            (1, "b", 6), (6, "b", 2), (1, "c", 4), (3, "d", 4)])
        self.same_kinds(pump_of(machine), (["", "a", "bb", "a", "d", "a", ""], [(0, 1), (2, 3), (4, 5)]))

    def test_long_middles(self):
        texts, rounds = pump_of(INTO)
        self.assertEqual(texts[1], "a" * 35)
        self.assertEqual(rounds[0][0] < 5, rounds[0][1] > 4)

    def test_told_lists_are_the_askers_own(self):
        for machine in (RINGS, chain(4), INTO):
            before = copy.deepcopy(machine)
            told = pump_of(machine)
            wanted = copy.deepcopy(told)
            for part in told:
                part.append("changed")
            self.assertEqual(machine, before)
            self.assertEqual(pump_of(machine), wanted)


class LetBy(Case):

    def test_pumps_with_one_thing_put_otherwise(self):
        chance = random.Random(53)
        counted = {True: 0, False: 0}
        for machine in all_machines():
            told = pump_of(machine)
            for _ in range(25 if told else 0):
                pump = put_otherwise(told, machine, chance)
                wanted = lets_by(machine, pump)
                self.assertIs(kept(lets_pump, machine, pump), wanted, (machine, pump))
                counted[wanted] += 1
        self.assertGreater(min(counted.values()), 300)

    def test_all_small_pumps(self):
        for machine in drawn(59, 25):
            for texts in [(ahead, middle, behind) for ahead in ("", "a") for middle in words("ab", 3)
                          for behind in ("", "b")]:
                for room in range(machine[0]):
                    for other in range(machine[0]):
                        pump = (list(texts), [(room, other)])
                        self.assertIs(lets_pump(machine, pump), lets_by(machine, pump), (machine, pump))

    def test_each_condition(self):
        loops = [(0, "a", 0), (0, "a", 1), (1, "a", 1)]
        machine = (4, [2], [3], loops + [(2, "b", 0), (1, "c", 3), (0, "d", 0), (1, "d", 1)])
        self.is_true(lets_pump(machine, (["b", "a", "c"], [(0, 1)])))
        self.is_true(lets_pump(machine, (["ba", "aaa", "ac"], [(0, 1)])))
        # Not from a first; the middle no round of the one, of the other, not from the one to the other; to no last.
        self.is_false(lets_pump(machine, (["", "a", "c"], [(0, 1)])))
        self.is_false(lets_pump(machine, (["b", "ac", "c"], [(0, 1)])))
        self.is_false(lets_pump(machine, (["b", "d", "c"], [(0, 1)])))
        self.is_false(lets_pump(machine, (["b", "a", "c"], [(1, 0)])))
        self.is_false(lets_pump(machine, (["b", "a", ""], [(0, 1)])))
        self.is_false(lets_pump(machine, (["b", "a", "c"], [(0, 0)])))
        self.is_false(lets_pump(machine, (["b", "", "c"], [(0, 1)])))
        self.is_false(lets_pump(machine, (["b", "e", "c"], [(0, 1)])))
        self.is_false(lets_pump(machine, (["b", "a", "", "a", "c"], [(0, 1), (0, 1)])))
        lone = (1, [0], [0], [(0, "a", 0), (0, "b", 0)])
        self.is_false(lets_pump(lone, (["", "a", ""], [(0, 0)])))
        self.is_false(lets_pump(lone, (["", "", ""], [(0, 0)])))
        # Two unlike ways at some place within, and none at the others, are two ways.
        late = (3, [0], [0], [(0, "a", 0), (0, "b", 1), (0, "b", 2), (1, "a", 0), (2, "a", 0)])
        self.is_true(lets_pump(late, (["", "aaba", "a"], [(0, 0)])))
        self.is_false(lets_pump(late, (["", "aaab", "a"], [(0, 0)])))

    def test_rounds_of_both_kinds_and_rooms_that_come_again(self):
        machine = (3, [0], [2], [(0, "a", 0), (0, "a", 1), (1, "a", 0), (1, "b", 2), (0, "b", 2), (0, "c", 0),
                                 (0, "c", 2), (2, "c", 2), (2, "d", 0)])
        pump = (["", "aa", "", "c", "d", "aaa", "", "c", ""], [(0, 0), (0, 2), (0, 0), (0, 2)])
        self.is_true(lets_pump(machine, pump))
        for many in range(6):
            self.assertGreaterEqual(ways(machine, laid(pump, many)), many * many * 4 ** many)
        self.is_false(lets_pump(machine, (pump[0], [(0, 0), (0, 2), (2, 2), (0, 2)])))

    def test_one_round_twelve_and_thirteen(self):
        machine = (1, [0], [0], [])
        loops = (2, [0], [0], [(0, "a", 0), (0, "a", 1), (1, "a", 0)])
        for many in range(15):
            pump = (["", "aa"] * many + [""], [(0, 0)] * many)
            self.assertIs(lets_pump(loops, pump), 1 <= many <= 12)
            self.is_false(lets_pump(machine, pump))
        pump = (["", "aa"] * 12 + [""], [(0, 0)] * 12)
        self.assertEqual(least_ways(pump, 3), 8 ** 12)

    def test_twelve_rooms(self):
        pump = pump_of(chain(12))
        self.is_true(lets_pump(chain(12), pump))
        self.is_false(lets_pump(chain(11), pump))
        self.is_true(lets_pump(chain(12), (["a", "aaa"] * 11 + ["aa"], pump[1])))
        self.is_false(lets_pump(chain(12), (["a", "aaa"] * 11 + ["b"], pump[1])))

    def test_texts_of_more_than_400_signs(self):
        begin = time.monotonic()
        for machine, room, other in ((crowded(), 0, 0), (INTO, 0, 5), (RINGS, 0, 0), (chain(12), 3, 7)):
            for signs in (400, 401, 2000, 2100):
                middle = "a" * signs
                counts = few_by_pairs(machine, middle)
                for ahead in ("a" * 1400, "a" * 3):
                    pump = ([ahead, middle, ahead], [(room, other)])
                    self.assertIs(lets_pump(machine, pump), lets_by(machine, pump))
        self.is_true(lets_pump(INTO, (["", "a" * 2100, "a" * 6999], [(0, 5)])), counts)
        self.is_false(lets_pump(INTO, (["", "a" * 2101, "a" * 6999], [(0, 5)])))
        self.is_true(lets_pump(crowded(), (["a" * 5000, "ab" * 1000, "a" * 5001], [(0, 0)])))
        self.assertLess(time.monotonic() - begin, 20)


class NoPumps(Case):

    def test_things_of_every_kind(self):
        for machine in (chain(2), RINGS, (1, [], [], [])):
            for thing in oddities() + machines()[:3] + [None]:
                self.is_false(lets_pump(machine, thing), thing)
        self.is_true(lets_pump(chain(2), LED))
        for thing in oddities():
            self.is_false(lets_pump(chain(2), (thing, LED[1])), thing)
            self.is_false(lets_pump(chain(2), (LED[0], thing)), thing)
            for at in range(3):
                texts = ["", "a", ""]
                texts[at] = thing
                self.assertIs(lets_pump(chain(2), (texts, [(0, 1)])), isinstance(thing, str) and lets_by(
                    chain(2), (texts, [(0, 1)])), thing)
            self.is_false(lets_pump(chain(2), (LED[0], [thing])), thing)
            self.is_false(lets_pump(chain(2), (LED[0], [(0, thing)])) and thing != 1, thing)
            self.is_false(lets_pump(chain(2), (LED[0], [(thing, 1)])) and thing != 0, thing)

    def test_forms_that_are_nearly_one(self):
        texts, rounds = LED
        for thing in [
            [texts, rounds], (texts,), (texts, rounds, None), (tuple(texts), rounds), (texts, tuple(rounds)),
            (texts, [[0, 1]]), (texts, [(0, True)]), (texts, [(False, 1)]), (texts, [(0, 1, 1)]), (texts, [(0,)]),
            (texts, [0, 1]), (texts, (0, 1)), (texts[:2], rounds), (texts + [""], rounds), (texts + ["", ""], rounds),
            (texts, rounds * 2), ([], []), ([""], []), (texts, []), ([], rounds), (["", ["a"], ""], rounds),
            (["", b"a", ""], rounds), (["", "A", ""], rounds), (["", "a ", ""], rounds), (["", "a\n", ""], rounds),
            (texts, [(0, 2)]), (texts, [(-1, 1)]), (texts, [(0, -1)]), (texts, [(0.0, 1)]), (texts, [("0", "1")]),
            ({"": 0, "a": 1}, rounds), (iter(texts), rounds), (None, None), (texts, {(0, 1): 1}),
            ((["", "a", ""], [(0, 1)]), rounds), (["", "a", None], rounds),
        ]:
            self.is_false(lets_pump(chain(2), thing), thing)

    def test_a_pump_of_another_machine(self):
        for machine in all_machines():
            for pump in (DOUBLE, LED, BOTH):
                if max(max(pair) for pair in pump[1]) < machine[0]:
                    self.assertIs(lets_pump(machine, pump), lets_by(machine, pump))
                else:
                    self.is_false(lets_pump(machine, pump))

    def test_what_is_no_machine_ahead_of_all_else(self):
        for thing, part, number in no_machines() + [(thing, "machine", None) for thing in oddities()]:
            values = {"part": part, "number": number}
            self.refused(NoMachine, values, pump_of, thing)
            self.refused(NoMachine, values, lets_pump, thing, LED)
            self.refused(NoMachine, values, lets_pump, thing, None)


class Laid(Case):

    def test_texts_in_order(self):
        self.same_kinds(laid(BOTH), "xabycz")
        self.same_kinds(laid(BOTH, 0), "xyz")
        self.same_kinds(laid(BOTH, 1), "xabycz")
        self.same_kinds(laid(BOTH, 3), "xabababycccz")
        self.same_kinds(laid(DOUBLE, 2), "baaaac")
        self.same_kinds(laid((["", "a", ""], [(0, 1)]), 400), "a" * 400)
        self.same_kinds(laid((["", "", ""], [(0, 1)]), 400), "")

    def test_of_whatever_machine_or_none(self):
        pump = (["q", "", "r", "stu", ""], [(11, 7), (99, 99)])
        self.same_kinds(laid(pump, 2), "qrstustu")
        self.same_kinds(least_ways(pump, 5), 160)
        self.is_false(lets_pump(chain(12), pump))

    def test_least_ways(self):
        for pump in (DOUBLE, LED, BOTH, pump_of(chain(12)), (["", "a"] * 12 + [""], [(1, 1)] * 12)):
            for many in (0, 1, 2, 3, 17, 399, 400):
                self.same_kinds(kept(least_ways, pump, many), least_by_hand(pump[1], many))
            self.same_kinds(least_ways(pump), least_by_hand(pump[1], 1))
        self.assertEqual(least_ways((["", "a"] * 12 + [""], [(1, 1)] * 12), 400), 2 ** 4800)
        self.same_kinds(least_ways(LED, 0), 0)
        self.same_kinds(least_ways(DOUBLE, 0), 1)
        # Also where the word that is laid would have too many signs.
        self.assertEqual(least_ways((["", "a" * 500, ""], [(0, 0)]), 2), 4)

    def test_what_is_laid_has_at_least_its_least_ways(self):
        seen = 0
        for machine in all_machines():
            told = pump_of(machine)
            for many in list(range(8)) + [20, 30] if told else []:
                texts = told[0]
                if sum(map(len, texts[::2])) + many * sum(map(len, texts[1::2])) <= 400:
                    word = kept(laid, told, many)
                    self.assertEqual(word, "".join(text * (many if at % 2 else 1) for at, text in enumerate(texts)))
                    self.assertGreaterEqual(ways(machine, word), least_ways(told, many))
                    seen += 1
                else:
                    self.refused(TooMany, {"many": 400}, laid, told, many)
        self.assertGreater(seen, 300)

    def test_pumps_that_were_let_by_have_their_least_ways(self):
        chance = random.Random(61)
        seen = 0
        for machine in all_machines():
            told = pump_of(machine)
            for _ in range(12 if told else 0):
                pump = put_otherwise(put_otherwise(told, machine, chance), machine, chance)
                if lets_pump(machine, pump):
                    seen += 1
                    for many in (0, 1, 2, 3):
                        if sum(map(len, pump[0])) * 3 <= 400:
                            self.assertGreaterEqual(ways(machine, laid(pump, many)), least_ways(pump, many))
        self.assertGreater(seen, 80)

    def test_400_signs_and_one_more(self):
        for many, ahead, middle in ((1, 0, 400), (2, 0, 200), (400, 0, 1), (399, 1, 1), (7, 1, 57), (0, 400, 9999)):
            pump = (["a" * ahead, "b" * middle, ""], [(0, 1)])
            self.assertEqual(laid(pump, many), "a" * ahead + "b" * middle * many)
            self.assertEqual(len(laid(pump, many)), 400)
            for at in (0, 2):
                texts = list(pump[0])
                texts[at] += "c"
                self.refused(TooMany, {"many": 400}, laid, (texts, [(0, 1)]), many)
        self.refused(TooMany, {"many": 400}, laid, (["", "a" * 401, ""], [(0, 0)]))
        self.refused(TooMany, {"many": 400}, laid, (["", "ab", ""], [(0, 0)]), 201)
        self.refused(TooMany, {"many": 400}, laid, (["", "a" * 20000] * 12 + [""], [(0, 0)] * 12), 400)

    def test_times_that_are_none(self):
        for thing in no_numbers(0, 400):
            for pump in (DOUBLE, LED, (["", "a" * 401, ""], [(0, 1)])):
                self.refused(NoNumber, {"number": thing}, laid, pump, thing)
                self.refused(NoNumber, {"number": thing}, least_ways, pump, thing)
                self.refused(NoNumber, {"number": thing}, laid, pump=pump, many=thing)

    def test_called_by_name(self):
        self.assertEqual(pump_of(machine=chain(2)), LED)
        self.is_true(lets_pump(thing=LED, machine=chain(2)))
        self.assertEqual(laid(pump=LED), "a")
        self.assertEqual(laid(many=3, pump=LED), "aaa")
        self.assertEqual(least_ways(pump=LED, many=3), 3)
        self.assertEqual(least_ways(pump=DOUBLE), 2)

    def test_useful_rooms_alone_have_pumps(self):
        for machine in all_machines():
            told = pump_of(machine)
            if told:
                rooms = useful_rooms(machine)
                self.assertTrue(all(room in rooms and other in rooms for room, other in told[1]))
                self.assertIn(told[1][0][0], led_to(machine, machine[1]))
