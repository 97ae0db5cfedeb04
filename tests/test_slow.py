"""0.4, 12.1: the stopper, and the words that make the trier slow."""

import copy

from tests.helper import (INTO, RINGS, Case, chain, crowded, growing, kept, machines, no_machines, no_numbers,
                          oddities)
from tests.test_rounds import THREE, TURNS, drawn, signs_in
from triesgrow.errors import NoMachine, NoNumber, NoSign, TooMany
from triesgrow.growth import growth
from triesgrow.machines import beginnings
from triesgrow.patterntexts import read
from triesgrow.positions import machine_of
from triesgrow.pumps import laid, least_ways, lets_pump, pump_of
from triesgrow.slow import slow_pump, slow_word, stopper
from triesgrow.trier import Trier
from triesgrow.tries import tries_all
from triesgrow.ways import ways

LETTERS = "abcdefghijklmnopqrstuvwxyz"
# All signs have steps, ways of beginnings double; all but one; and the same where they never grow.
FULL = (2, [0], [1], [(0, sign, 0) for sign in LETTERS] + [(0, "a", 1), (1, "a", 0), (1, "b", 1)])
PLAIN = (1, [0], [0], [(0, sign, 0) for sign in LETTERS])
DOUBLES = (2, [0], [0], [(0, "a", 0), (0, "a", 1), (1, "a", 0)])


def without(machine, sign):
    many, firsts, lasts, steps = machine
    return many, firsts, lasts, [step for step in steps if step[1] != sign]


def all_machines():
    return [machine for machine, _ in growing()] + machines() + drawn(157, 60) + [THREE, TURNS]


class Stopper(Case):

    def test_the_first_sign_that_no_step_has(self):
        self.same_kinds(stopper((1, [], [], [])), "a")
        self.same_kinds(stopper((1, [0], [0], [(0, "b", 0)])), "a")
        self.same_kinds(stopper(chain(2)), "b")
        self.same_kinds(stopper((1, [], [], [(0, "a", 0), (0, "c", 0)])), "b")
        for machine in all_machines():
            self.same_kinds(kept(stopper, machine), next(sign for sign in LETTERS if sign not in signs_in(machine)))
        for sign in LETTERS:
            self.same_kinds(stopper(without(FULL, sign)), sign)
            self.same_kinds(stopper(without(PLAIN, sign)), sign)

    def test_where_all_have_one(self):
        for machine in (FULL, PLAIN, (12, [], [], PLAIN[3])):
            self.refused(NoSign, {"sign": None}, stopper, machine)


class Pump(Case):

    def test_that_of_the_beginnings(self):
        seen = set()
        for machine in all_machines() + [FULL, PLAIN]:
            told = kept(slow_pump, machine)
            self.same_kinds(told, pump_of(beginnings(machine)))
            how = growth(beginnings(machine))
            seen.add(how[0])
            if how == ("never",):
                self.assertIsNone(told)
            else:
                self.is_true(lets_pump(beginnings(machine), told))
                self.assertEqual(len(told[1]), 1 if how == ("doubles",) else how[1])
        self.assertEqual(seen, {"never", "power", "doubles"})

    def test_told(self):
        self.same_kinds(slow_pump(chain(2)), (["", "a", ""], [(0, 1)]))
        self.same_kinds(slow_pump((1, [0], [0], [(0, "a", 0)])), None)
        # Rooms that lead to no last make the trier slow, too.
        self.same_kinds(slow_pump((3, [0], [2], [(0, "a", 0), (0, "a", 1), (1, "a", 1), (0, "b", 2)])), (
            ["", "a", ""], [(0, 1)]))
        self.same_kinds(pump_of((3, [0], [2], [(0, "a", 0), (0, "a", 1), (1, "a", 1), (0, "b", 2)])), None)
        self.same_kinds(slow_pump((2, [0], [], [(0, "a", 0), (0, "a", 1), (1, "a", 0)])), (["", "aa", ""], [(0, 0)]))
        self.same_kinds(slow_pump((2, [], [0, 1], [(0, "a", 0), (0, "a", 1), (1, "a", 0)])), None)
        machine = (4, [0], [1], [(0, "a", 1), (0, "b", 2), (2, "a", 2), (2, "a", 3), (3, "a", 2)])
        self.same_kinds(slow_pump(machine), (["b", "aa", ""], [(2, 2)]))
        self.same_kinds(pump_of(machine), None)

    def test_where_all_signs_have_steps(self):
        self.is_true(lets_pump(beginnings(FULL), slow_pump(FULL)))
        self.same_kinds(slow_pump(PLAIN), None)


class Word(Case):

    def test_read_by_none_and_slow(self):
        seen = 0
        for machine in all_machines():
            pump = slow_pump(machine)
            for many in (0, 1, 2, 3, 5, 8) if pump else ():
                wanted = sum(len(text) * (many if at % 2 else 1) for at, text in enumerate(pump[0])) + 1
                if wanted > 400:
                    self.refused(TooMany, {"many": 400}, slow_word, machine, many)
                    continue
                seen += 1
                word = kept(slow_word, machine, many)
                self.assertEqual(word, laid(pump, many) + stopper(machine))
                self.assertEqual(ways(machine, word), 0)
                self.assertGreaterEqual(tries_all(machine, word), least_ways(pump, many))
                if tries_all(machine, word) < 20000:
                    trier = Trier(machine, word, 20000)
                    self.assertIsNone(trier.go())
                    self.assertGreaterEqual(trier.tries(), least_ways(pump, many))
                    self.assertEqual((trier.found(), len(trier)), ([], 0))
        self.assertGreater(seen, 200)

    def test_told(self):
        self.same_kinds(slow_word(chain(2)), "ab")
        self.same_kinds(slow_word(chain(2), 0), "b")
        self.same_kinds(slow_word(chain(2), 5), "aaaaab")
        self.same_kinds(slow_word(DOUBLES, 3), "aaaaaab")
        self.same_kinds(slow_word(machine_of(read("(a|a)*")), 3)[-1:], "b")
        self.assertGreaterEqual(tries_all(DOUBLES, slow_word(DOUBLES, 60)), 1 << 60)

    def test_where_there_is_no_such_pump(self):
        for machine in ((1, [], [], []), (1, [0], [0], [(0, "a", 0)]), chain(1), (12, list(range(12)), [], []),
                        without(PLAIN, "q")):
            for many in (0, 1, 400):
                self.same_kinds(slow_word(machine, many), None)

    def test_400_signs_and_one_more(self):
        self.same_kinds(slow_word(chain(2), 399), "a" * 399 + "b")
        self.refused(TooMany, {"many": 400}, slow_word, chain(2), 400)
        self.assertEqual(len(slow_word(DOUBLES, 199)), 399)
        self.refused(TooMany, {"many": 400}, slow_word, DOUBLES, 200)
        ahead = (4, [2], [1], chain(2)[3] + [(2, "c", 3), (3, "c", 0)])
        self.assertEqual(len(slow_word(ahead, 397)), 400)
        self.refused(TooMany, {"many": 400}, slow_word, ahead, 398)
        self.refused(TooMany, {"many": 400}, slow_word, ahead, 400)
        self.refused(TooMany, {"many": 400}, slow_word, INTO, 12)

    def test_order_of_refusals(self):
        for thing, part, number in no_machines() + [(thing, "machine", None) for thing in oddities()]:
            values = {"part": part, "number": number}
            self.refused(NoMachine, values, stopper, thing)
            self.refused(NoMachine, values, slow_pump, thing)
            self.refused(NoMachine, values, slow_word, thing)
            self.refused(NoMachine, values, slow_word, thing, -1)
        for thing in no_numbers(0, 400):
            for machine in (chain(2), FULL, PLAIN, (1, [], [], [])):
                self.refused(NoNumber, {"number": thing}, slow_word, machine, thing)
                self.refused(NoNumber, {"number": thing}, slow_word, machine=machine, many=thing)
        for machine in (FULL, PLAIN):
            for many in (0, 1, 400):
                self.refused(NoSign, {"sign": None}, slow_word, machine, many)

    def test_told_lists_are_the_askers_own(self):
        for machine in (chain(3), RINGS, crowded()):
            before = copy.deepcopy(machine)
            told = slow_pump(machine)
            wanted = copy.deepcopy(told)
            for part in told:
                part.append("changed")
            self.assertEqual(slow_pump(machine), wanted)
            self.assertEqual(machine, before)

    def test_called_by_name(self):
        self.assertEqual(stopper(machine=chain(2)), "b")
        self.assertEqual(slow_pump(machine=chain(2)), (["", "a", ""], [(0, 1)]))
        self.assertEqual(slow_word(many=2, machine=chain(2)), "aab")
