"""5.2: tries told without going."""

from tests.helper import (
    Case, crowded, kept, listed_tries, listed_ways, machines, no_machines, oddities, words,
)
from tests.test_ways import BOTH, NO_WORDS, WHOLE
from triesgrow.errors import NoMachine, NoNumber, NoWord
from triesgrow.trier import Trier
from triesgrow.tries import tries_all, tries_to
from triesgrow.ways import ways


def few_words(machine):
    return words("abz", 2 if machine == crowded() else 4)


class Listed(Case):

    def test_all_tries(self):
        for machine in machines():
            for word in few_words(machine):
                self.same_kinds(kept(tries_all, machine, word), len(listed_tries(machine, word)))

    def test_tries_up_to_each_way(self):
        for machine in machines():
            for word in few_words(machine):
                listed = listed_tries(machine, word)
                for number, way in enumerate(listed_ways(machine, word)):
                    self.same_kinds(kept(tries_to, machine, word, number), listed.index(way) + 1)

    def test_as_many_as_a_trier_makes(self):
        for machine in machines():
            for word in few_words(machine):
                trier = Trier(machine, word, 10 ** 6)
                number = 0
                while trier.go() is not None:
                    self.assertEqual(tries_to(machine, word, number), trier.tries())
                    number += 1
                self.assertEqual(tries_all(machine, word), trier.tries())


class Told(Case):

    def test_the_word_without_signs(self):
        machine = (4, [0, 2, 3], [0, 1, 3], [])
        self.same_kinds(tries_all(machine, ""), 3)
        self.same_kinds(tries_to(machine, "", 0), 1)
        self.same_kinds(tries_to(machine, "", 1), 3)

    def test_without_firsts_lasts_or_steps(self):
        self.same_kinds(tries_all((2, [], [0, 1], [(0, "a", 1)]), "a"), 0)
        self.same_kinds(tries_all((2, [0, 1], [], [(0, "a", 1)]), "a"), 3)
        self.same_kinds(tries_all((2, [0, 1], [0, 1], []), "a"), 2)

    def test_steps_that_are_not_sorted(self):
        machine = (3, [0, 1], [2], [(0, "a", 1), (0, "a", 2), (0, "a", 0), (1, "a", 2), (1, "b", 0)])
        self.assertEqual([tries_to(machine, "aa", number) for number in range(2)], [3, 7])
        self.assertEqual(tries_all(machine, "aa"), 10)

    def test_more_tries_than_could_be_made(self):
        word = "a" * 400
        self.same_kinds(tries_all(BOTH, word), 2 ** 402 - 2)
        self.same_kinds(tries_to(BOTH, word, 0), 401)
        self.same_kinds(tries_to(BOTH, word, 1), 402)
        self.same_kinds(tries_to(BOTH, word, 2), 404)
        self.same_kinds(tries_to(BOTH, word, 2 ** 401 - 1), 2 ** 402 - 2)
        self.same_kinds(tries_to(BOTH, word, 2 ** 400), 2 ** 401 - 1 + 401)
        self.same_kinds(tries_to(BOTH, word, 2 ** 400 - 1), 2 ** 401 - 1)
        most = ways(crowded(), "ab" * 200)
        self.assertGreater(tries_all(crowded(), "ab" * 200), tries_to(crowded(), "ab" * 200, most - 1))
        trier = Trier(crowded(), "ab" * 200)
        for number in range(5):
            trier.go()
            self.assertEqual(tries_to(crowded(), "ab" * 200, number), trier.tries())

    def test_called_by_name(self):
        self.assertEqual(tries_all(machine=BOTH, text="a"), 6)
        self.assertEqual(tries_to(machine=BOTH, text="a", number=2), 5)


class Refused(Case):

    def test_what_is_no_machine_ahead_of_all_else(self):
        for thing, part, number in no_machines() + [(thing, "machine", None) for thing in oddities()]:
            values = {"part": part, "number": number}
            for text in ("a", "A", None):
                self.refused(NoMachine, values, tries_all, thing, text)
                self.refused(NoMachine, values, tries_to, thing, text, -1)

    def test_what_is_no_word_ahead_of_the_number(self):
        for thing, at in NO_WORDS + [(thing, None) for thing in oddities() if not isinstance(thing, str)]:
            self.refused(NoWord, {"at": at}, tries_all, WHOLE, thing)
            self.refused(NoWord, {"at": at}, tries_to, WHOLE, thing, 0)
            self.refused(NoWord, {"at": at}, tries_to, WHOLE, thing, None)

    def test_what_is_no_number_of_a_way(self):
        others = [thing for thing in oddities() if type(thing) is not int]
        for number in others + [4, 5, -1, -4, 10 ** 60, True, False, "0", 0.0, [0], None]:
            self.refused(NoNumber, {"number": number}, tries_to, BOTH, "a", number)

    def test_one_beyond(self):
        for machine in machines():
            for word in words("ab", 2):
                many = len(listed_ways(machine, word))
                self.refused(NoNumber, {"number": many}, tries_to, machine, word, many)
                self.refused(NoNumber, {"number": -1}, tries_to, machine, word, -1)
        self.refused(NoNumber, {"number": 2 ** 401}, tries_to, BOTH, "a" * 400, 2 ** 401)
