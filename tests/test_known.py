"""0.4 and 7.2: the memory, whose words hang on nothing that it keeps."""

import copy
import random

from tests.helper import Case, crowded, machines, no_machines, no_numbers, oddities, words
from tests.test_sets import ALL, NINTH, signs_in
from tests.test_ways import BOTH, NO_WORDS, WHOLE
from triesgrow.errors import NoMachine, NoNumber, NoWord
from triesgrow.known import Known
from triesgrow.sets import sets_of
from triesgrow.ways import reached, ways


class KnownCase(Case):

    def tells(self, memory, machine, word, most):
        """What the memory tells of the word, as triesgrow.ways does, and how much it keeps behind it."""
        self.assertIs(memory.reads(word), ways(machine, word) > 0)
        self.keeps(memory, word, most)
        self.same_kinds(memory.reached(word), reached(machine, word))
        self.keeps(memory, word, most)

    def keeps(self, memory, word, most):
        self.assertIs(type(memory.known()), int)
        self.assertLessEqual(memory.known(), most)
        self.assertGreaterEqual(memory.known(), 1 if word else 0)


class Told(KnownCase):

    def test_short_words(self):
        for machine in machines():
            for most in (1, 2, 50, 4096):
                memory = Known(machine, most)
                for word in words("abz", 2 if machine == crowded() else 4):
                    self.tells(memory, machine, word, most)

    def test_drawn_words_forgetting_now_and_then(self):
        chance = random.Random(13)
        for machine in machines() + [NINTH, ALL]:
            for most in (1, 2, 3, 5, 50, 4096):
                memory = Known(machine, most)
                for _ in range(12):
                    word = "".join(chance.choice("aabbz") for _ in range(chance.choice((0, 1, 2, 3, 5, 40))))
                    self.tells(memory, machine, word, most)
                    if chance.random() < 0.2:
                        self.assertIsNone(memory.forget())
                        self.same_kinds(memory.known(), 0)

    def test_what_it_tells_hangs_on_nothing_that_was_asked(self):
        listed = words("ab", 5)
        for order in (listed, listed[::-1], sorted(listed)):
            memory = Known(NINTH, 3)
            for word in order:
                self.tells(memory, NINTH, word, 3)

    def test_how_many_it_keeps(self):
        memory = Known(WHOLE)
        self.same_kinds(memory.known(), 0)
        memory.reads("a")
        self.same_kinds(memory.known(), 1)
        memory.forget()
        self.same_kinds(memory.known(), 0)
        memory.reached("a")
        self.same_kinds(memory.known(), 1)
        memory.forget()
        memory.forget()
        self.same_kinds(memory.known(), 0)

    def test_never_more_than_there_are_sets(self):
        for machine in machines():
            memory = Known(machine, 4096)
            for word in words("".join(signs_in(machine)), 3):
                memory.reads(word)
                self.assertLessEqual(memory.known(), len(sets_of(machine, 4096)))

    def test_many_sets(self):
        chance = random.Random(17)
        for most in (1, 7, 4096):
            memory = Known(ALL, most)
            for _ in range(8):
                word = "".join(chance.choice("ab") for _ in range(400))
                self.tells(memory, ALL, word, most)

    def test_the_default_most_is_50(self):
        memory = Known(NINTH)
        for word in words("ab", 7):
            memory.reads(word + "b")
            self.keeps(memory, "b", 50)

    def test_signs_that_no_step_has(self):
        for machine in (WHOLE, (2, [0, 1], [0, 1], []), (1, [], [], [])):
            memory = Known(machine)
            for word in ("z", "az", "za", "zz"):
                memory.forget()
                self.tells(memory, machine, word, 50)
                self.assertEqual(memory.reached(word), [])

    def test_without_firsts_lasts_or_steps(self):
        for machine in ((2, [], [0, 1], [(0, "a", 1)]), (2, [0, 1], [], [(0, "a", 1)]), (2, [0, 1], [0, 1], []),
                        (1, [0], [0], []), (1, [], [], [])):
            memory = Known(machine, 1)
            for word in ("", "a", "aa", "b", ""):
                self.tells(memory, machine, word, 1)

    def test_words_of_400_signs(self):
        for machine in (BOTH, WHOLE, NINTH, crowded()):
            for most in (1, 50):
                memory = Known(machine, most)
                for word in ("ab" * 200, "a" * 400, "a" * 399 + "b"):
                    self.tells(memory, machine, word, most)

    def test_called_by_name(self):
        memory = Known(machine=WHOLE, most=2)
        self.is_true(memory.reads(text="a"))
        self.assertEqual(memory.reached(text="aab"), [1])
        self.assertLessEqual(memory.known(), 2)
        self.is_true(Known(most=2, machine=WHOLE).reads(""))


class Refused(KnownCase):

    def test_what_is_no_machine_ahead_of_the_most(self):
        for thing, part, number in no_machines() + [(thing, "machine", None) for thing in oddities()]:
            self.refused(NoMachine, {"part": part, "number": number}, Known, thing)
            self.refused(NoMachine, {"part": part, "number": number}, Known, thing, 0)

    def test_what_is_no_most(self):
        for thing in no_numbers(1, 4096):
            self.refused(NoNumber, {"number": thing}, Known, WHOLE, thing)
            self.refused(NoNumber, {"number": thing}, Known, WHOLE, most=thing)

    def test_what_is_no_word_changes_nothing(self):
        things = NO_WORDS + [(thing, None) for thing in oddities() if not isinstance(thing, str)]
        for asked in ([], ["a"], ["aab", "bba"]):
            memory = Known(WHOLE, 2)
            for word in asked:
                memory.reads(word)
            known = memory.known()
            for thing, at in things:
                self.refused(NoWord, {"at": at}, memory.reads, thing)
                self.refused(NoWord, {"at": at}, memory.reached, thing)
                self.assertEqual(memory.known(), known)
            self.tells(memory, WHOLE, "aab", 2)


class Own(KnownCase):

    def test_told_lists_are_the_askers_own(self):
        memory = Known(WHOLE)
        for word in ("", "a", "aab", "a", ""):
            told = memory.reached(word)
            told.append(7)
            told[0] = 9
            self.tells(memory, WHOLE, word, 50)

    def test_what_was_handed_in_may_be_changed(self):
        for part in (1, 2, 3):
            for asked in ("", "ab"):
                machine = copy.deepcopy(WHOLE)
                memory = Known(machine)
                memory.reads(asked)
                machine[part].clear()
                for word in ("", "a", "aab", "abab"):
                    self.tells(memory, WHOLE, word, 50)
                memory.forget()
                for word in ("", "a", "aab", "abab"):
                    self.tells(memory, WHOLE, word, 50)

    def test_the_machine_stays_as_it_was(self):
        machine = copy.deepcopy(WHOLE)
        memory = Known(machine, 1)
        for word in words("abz", 3):
            memory.reads(word)
        memory.forget()
        self.assertEqual(machine, WHOLE)

    def test_two_memories_have_nothing_in_common(self):
        one = Known(WHOLE)
        other = Known(WHOLE)
        one.reads("aab")
        self.assertEqual(other.known(), 0)
        other.reads("b")
        known = one.known()
        other.forget()
        self.assertEqual(one.known(), known)
