"""0.4 and 5.1: the trier goes from beginning to beginning, takes the first way and comes back."""

import copy

from tests.helper import (
    Case, crowded, kept, listed_beginnings, listed_tries, listed_ways, machines, no_machines, no_numbers, oddities,
    words,
)
from tests.test_ways import BOTH, NO_WORDS, WHOLE
from triesgrow.errors import NoMachine, NoNumber, NoWord, TooMany
from triesgrow.trier import Trier

LOOP = (1, [0], [0], [(0, "a", 0)])
# Each word of signs a has 2 ** (n + 1) beginnings of n signs, and no way.
BLIND = (2, [0, 1], [], BOTH[3])


def few_words(machine):
    return ["", "a", "ab", "zb"] if machine == crowded() else words("abz", 3)


def mosts(many):
    """Mosts about so many tries."""
    return sorted({most for most in (1, 2, 3, many // 2, many - 1, many, many + 1, 10 ** 6) if most >= 1})


class Listed(Case):

    def goes_as_listed(self, machine, word, most):
        """The trier's deeds, each held against all beginnings, gone through one by one."""
        listed = listed_tries(machine, word)
        ways = [way for way in listed if len(way) > len(word) and way[-1] in machine[2]]
        trier = Trier(machine, word, most)
        self.tells(trier, 0, [])
        for at, way in enumerate(ways):
            tries = listed.index(way) + 1
            if tries > most:
                break
            self.same_kinds(trier.go(), way)
            self.tells(trier, tries, ways[:at + 1])
        told = len(trier)
        for _ in range(3):
            if len(listed) > most:
                self.refused(TooMany, {"many": most}, trier.go)
            else:
                self.assertIsNone(trier.go())
            self.tells(trier, min(most, len(listed)), ways[:told])

    def tells(self, trier, tries, ways):
        self.same_kinds(trier.tries(), tries)
        self.same_kinds(trier.found(), ways)
        self.same_kinds(len(trier), len(ways))

    def test_with_many_mosts(self):
        for machine in machines():
            for word in few_words(machine):
                for most in mosts(len(listed_tries(machine, word))):
                    self.goes_as_listed(machine, word, most)

    def test_with_each_most(self):
        for machine in (WHOLE, BOTH, BLIND, machines()[7], machines()[9]):
            for word in ("", "a", "aa", "aab", "aba"):
                for most in range(1, len(listed_tries(machine, word)) + 3):
                    self.goes_as_listed(machine, word, most)

    def test_at_its_end_it_has_tried_all_beginnings_each_once(self):
        for machine in machines():
            for word in few_words(machine):
                trier = Trier(machine, word, 10 ** 6)
                while trier.go() is not None:
                    pass
                every = [way for i in range(len(word) + 1) for way in listed_beginnings(machine, word[:i])]
                self.assertEqual(sorted(every), sorted(listed_tries(machine, word)))
                self.assertEqual(trier.tries(), len(every))
                self.assertEqual(trier.found(), listed_ways(machine, word))


class Told(Case):

    def test_the_tries_up_to_each_way(self):
        machine = (3, [0, 1], [2], [(0, "a", 1), (0, "a", 2), (0, "a", 0), (1, "a", 2), (1, "b", 0)])
        trier = Trier(machine, "aa")
        self.assertEqual((trier.tries(), trier.found(), len(trier)), (0, [], 0))
        # Tried are 0, 01, 012: a way; then 02, 00, 001, 002: a way; then 000, 1, 12.
        self.assertEqual((trier.go(), trier.tries()), ([0, 1, 2], 3))
        self.assertEqual((trier.go(), trier.tries()), ([0, 0, 2], 7))
        self.assertEqual((trier.go(), trier.tries()), (None, 10))
        self.assertEqual((trier.go(), trier.tries()), (None, 10))
        self.assertEqual((trier.found(), len(trier)), ([[0, 1, 2], [0, 0, 2]], 2))

    def test_the_word_without_signs(self):
        trier = Trier((4, [0, 2, 3], [0, 1, 3], [(0, "a", 1)]), "")
        self.assertEqual((trier.go(), trier.tries()), ([0], 1))
        self.assertEqual((trier.go(), trier.tries()), ([3], 3))
        self.assertEqual((trier.go(), trier.tries()), (None, 3))

    def test_without_firsts_lasts_or_steps(self):
        trier = Trier((2, [], [0, 1], [(0, "a", 1)]), "a", 1)
        self.assertEqual((trier.go(), trier.go(), trier.tries(), trier.found()), (None, None, 0, []))
        trier = Trier((2, [0, 1], [], [(0, "a", 1)]), "a")
        self.assertEqual((trier.go(), trier.go(), trier.tries(), trier.found()), (None, None, 3, []))
        trier = Trier((2, [0, 1], [0, 1], []), "a")
        self.assertEqual((trier.go(), trier.go(), trier.tries(), trier.found()), (None, None, 2, []))

    def test_steps_that_are_not_sorted(self):
        trier = Trier(BOTH, "a")
        self.assertEqual([trier.go() for _ in range(5)], [[0, 1], [0, 0], [1, 0], [1, 1], None])

    def test_a_last_on_the_way_is_no_way(self):
        trier = Trier(LOOP, "aa")
        self.assertEqual((trier.go(), trier.tries(), trier.go()), ([0, 0, 0], 3, None))

    def test_words_of_400_signs(self):
        word = "a" * 400
        trier = Trier(LOOP, word)
        self.assertEqual((trier.go(), trier.tries(), trier.go(), trier.tries()), ([0] * 401, 401, None, 401))
        self.refused(TooMany, {"many": 400}, Trier(LOOP, word, 400).go)
        self.assertEqual(Trier(LOOP, word, 401).go(), [0] * 401)
        trier = Trier(BOTH, word)
        self.assertEqual((trier.go(), trier.tries()), ([0, 1] * 200 + [0], 401))
        self.assertEqual((trier.go(), trier.tries()), ([0, 1] * 200 + [1], 402))
        self.assertEqual((trier.go(), trier.tries()), ([0, 1] * 199 + [0, 0, 1], 404))
        trier = Trier((1, [0], [], LOOP[3]), word)
        self.assertEqual((trier.go(), trier.tries()), (None, 401))
        trier = Trier(LOOP, "a" * 399 + "b")
        self.assertEqual((trier.go(), trier.tries()), (None, 400))

    def test_the_default_most_is_1000(self):
        trier = Trier(BLIND, "a" * 400)
        for _ in range(2):
            self.refused(TooMany, {"many": 1000}, trier.go)
            self.assertEqual((trier.tries(), trier.found()), (1000, []))

    def test_a_most_of_a_million(self):
        trier = Trier(BLIND, "a" * 400, 10 ** 6)
        for _ in range(2):
            self.refused(TooMany, {"many": 10 ** 6}, trier.go)
            self.assertEqual(trier.tries(), 10 ** 6)
        # 2 + 4 + .. + 2 ** 18 tries.
        trier = Trier(BLIND, "a" * 17, 10 ** 6)
        self.assertEqual((trier.go(), trier.tries()), (None, 2 ** 19 - 2))

    def test_many_ways_of_a_long_word(self):
        trier = Trier(BOTH, "a" * 400, 20000)
        told = []
        with self.assertRaises(TooMany):
            while True:
                told.append(trier.go())
        self.assertEqual(trier.tries(), 20000)
        self.assertEqual(trier.found(), told)
        self.assertEqual(len(trier), len(told))
        self.assertEqual(len({tuple(way) for way in told}), len(told))

    def test_called_by_name(self):
        trier = Trier(machine=BLIND, text="aa", most=5)
        self.refused(TooMany, {"many": 5}, trier.go)
        self.assertEqual(Trier(most=2, text="", machine=BOTH).go(), [0])


class Refused(Case):

    def test_what_is_no_machine_ahead_of_all_else(self):
        for thing, part, number in no_machines() + [(thing, "machine", None) for thing in oddities()]:
            values = {"part": part, "number": number}
            self.refused(NoMachine, values, Trier, thing, "a")
            self.refused(NoMachine, values, Trier, thing, "A", 0)

    def test_what_is_no_word_ahead_of_the_most(self):
        for thing, at in NO_WORDS + [(thing, None) for thing in oddities() if not isinstance(thing, str)]:
            self.refused(NoWord, {"at": at}, Trier, WHOLE, thing)
            self.refused(NoWord, {"at": at}, Trier, WHOLE, thing, 0)

    def test_what_is_no_most(self):
        for thing in no_numbers(1, 10 ** 6):
            self.refused(NoNumber, {"number": thing}, Trier, WHOLE, "a", thing)
            self.refused(NoNumber, {"number": thing}, Trier, WHOLE, "", most=thing)
        for most in (1, 2, 10 ** 6):
            self.assertEqual(kept(Trier, WHOLE, "a", most).tries(), 0)


class Own(Case):

    def test_told_lists_are_the_askers_own(self):
        trier = Trier(BOTH, "aa")
        for _ in range(4):
            told = trier.go()
            told[0] = 9
            told.append(9)
            found = trier.found()
            for way in found:
                way[-1] = 7
                way.append(7)
            found.append([5])
            self.assertEqual(trier.found(), listed_ways(BOTH, "aa")[:len(trier)])
        self.assertEqual(trier.go(), listed_ways(BOTH, "aa")[4])

    def test_ways_that_were_found_share_nothing(self):
        trier = Trier(BOTH, "aa")
        while trier.go() is not None:
            pass
        found = trier.found()
        before = copy.deepcopy(found)
        found[3].clear()
        self.assertEqual(found[:3] + found[4:], before[:3] + before[4:])

    def test_what_was_handed_in_may_be_changed(self):
        for part in (1, 2, 3):
            machine = copy.deepcopy(BOTH)
            trier = Trier(machine, "aa")
            self.assertEqual(trier.go(), listed_ways(BOTH, "aa")[0])
            machine[part].clear()
            for way in listed_ways(BOTH, "aa")[1:] + [None]:
                self.assertEqual(trier.go(), way)
            machine = copy.deepcopy(BOTH)
            trier = Trier(machine, "aa")
            machine[part].reverse()
            self.assertEqual(trier.go(), listed_ways(BOTH, "aa")[0])

    def test_the_machine_stays_as_it_was(self):
        for machine in machines():
            before = copy.deepcopy(machine)
            trier = Trier(machine, "aab", 10 ** 6)
            while trier.go() is not None:
                pass
            trier.found()
            self.assertEqual(machine, before)

    def test_two_triers_have_nothing_in_common(self):
        one = Trier(BOTH, "aa", 5)
        other = Trier(BOTH, "aa", 6)
        ways = listed_ways(BOTH, "aa")
        self.assertEqual((one.go(), one.go()), (ways[0], ways[1]))
        self.assertEqual((other.tries(), other.found(), len(other)), (0, [], 0))
        self.assertEqual((other.go(), one.tries()), (ways[0], 4))
        self.refused(TooMany, {"many": 5}, lambda: [one.go() for _ in range(9)])
        self.assertEqual((other.go(), other.go(), other.tries()), (ways[1], ways[2], 6))
        self.assertEqual(one.found(), ways[:2])
