"""0.4 and 6.1: the reader tells without trying how many ways a word has."""

import copy
import random

from tests.helper import (
    Case, Thing, crowded, listed_beginnings, listed_ways, machines, no_machines, no_numbers, oddities, words,
)
from tests.test_ways import BOTH, NO_WORDS, WHOLE
from triesgrow.errors import Bare, NoMachine, NoNumber, NoSign, NoWord, TooMany
from triesgrow.reader import Reader
from triesgrow.ways import counts, reached, ways

NO_SIGNS = ["A", "Z", "ab", "aa", "", " ", "_", "0", "`", "{", "~", "\n", "a ", "a\n", b"a", ["a"], ("a",), 97]


def reader_of(machine, word):
    reader = Reader(machine)
    reader.take(word)
    return reader


class Always:
    """A thing that is alike with all things."""

    def __eq__(self, other):
        return True


class ReaderCase(Case):

    def tells(self, reader, machine, word):
        """All that the reader tells, of this machine and this word, as triesgrow.ways does."""
        self.same_kinds(reader.text(), word)
        self.same_kinds(len(reader), len(word))
        self.same_kinds(repr(reader), f"Reader({word})")
        self.same_kinds(reader.counts(), counts(machine, word))
        self.same_kinds(reader.reached(), reached(machine, word))
        self.same_kinds(reader.ways(), ways(machine, word))
        self.assertIs(reader.is_read(), ways(machine, word) > 0)

    def tells_as_listed(self, reader, machine, word):
        ends = [way[-1] for way in listed_beginnings(machine, word)]
        self.same_kinds(reader.counts(), [ends.count(room) for room in range(machine[0])])
        self.same_kinds(reader.reached(), sorted(set(ends)))
        self.same_kinds(reader.ways(), len(listed_ways(machine, word)))
        self.assertIs(reader.is_read(), len(listed_ways(machine, word)) > 0)


class Listed(ReaderCase):

    def test_all_short_words(self):
        for machine in machines():
            for word in words("abz", 2 if machine == crowded() else 3):
                reader = Reader(machine)
                self.assertIsNone(reader.take(word))
                self.tells_as_listed(reader, machine, word)
                self.tells(reader, machine, word)

    def test_sign_by_sign_and_back(self):
        for machine in machines():
            reader = Reader(machine)
            for at, sign in enumerate("abba"[:3 if machine == crowded() else 4]):
                self.tells_as_listed(reader, machine, "abba"[:at])
                self.assertIsNone(reader.feed(sign))
            for at in range(len(reader), 0, -1):
                self.tells_as_listed(reader, machine, "abba"[:at])
                self.assertIsNone(reader.back())
            self.tells(reader, machine, "")

    def test_drawn_deeds(self):
        chance = random.Random(11)
        for machine in machines():
            reader = Reader(machine)
            word = ""
            for _ in range(60):
                word = self.deed(chance, reader, word)
                if chance.random() < 0.1:
                    reader = reader.twin()
                self.tells(reader, machine, word)
                if len(word) < 4 and machine != crowded():
                    self.tells_as_listed(reader, machine, word)

    def deed(self, chance, reader, word):
        """One deed drawn, be it refused or not; told is the word behind it."""
        drawn = chance.randrange(6)
        if drawn < 2:
            sign = chance.choice("aabbz")
            reader.feed(sign)
            return word + sign
        if drawn == 2:
            more = "".join(chance.choice("ab") for _ in range(chance.randint(0, 4)))
            reader.take(more)
            return word + more
        many = chance.randint(1, 3)
        if drawn == 3:
            self.refused(NoWord, {"at": 1}, reader.take, "a?")
            self.refused(NoSign, {"sign": "ab"}, reader.feed, "ab")
        elif many > len(word):
            self.refused(Bare, {}, reader.back, many)
        else:
            reader.back(many)
            return word[:-many]
        return word


class Told(ReaderCase):

    def test_at_first(self):
        reader = Reader(WHOLE)
        self.assertEqual((reader.text(), reader.reached(), reader.counts()), ("", [0, 1], [1, 1, 0]))
        self.assertEqual((reader.ways(), reader.is_read(), len(reader), repr(reader)), (1, True, 0, "Reader()"))

    def test_a_word(self):
        reader = Reader(WHOLE)
        self.assertIsNone(reader.take("aa"))
        self.assertIsNone(reader.feed("b"))
        self.assertEqual((reader.text(), reader.reached(), reader.counts()), ("aab", [1], [0, 4, 0]))
        self.assertEqual((reader.ways(), reader.is_read(), len(reader), repr(reader)), (4, True, 3, "Reader(aab)"))
        self.assertIsNone(reader.feed("b"))
        self.assertEqual((reader.ways(), reader.is_read(), reader.reached()), (0, False, []))
        self.assertIsNone(reader.back(2))
        self.assertEqual((reader.text(), reader.counts()), ("aa", [3, 0, 1]))

    def test_signs_that_no_step_has(self):
        reader = reader_of(WHOLE, "az")
        self.assertEqual((reader.text(), reader.counts(), reader.reached()), ("az", [0, 0, 0], []))
        reader.feed("a")
        self.assertEqual((reader.ways(), reader.is_read(), reader.text()), (0, False, "aza"))
        reader.back(2)
        self.assertEqual((reader.ways(), reader.is_read(), reader.text()), (2, True, "a"))

    def test_without_firsts_lasts_or_steps(self):
        self.tells(reader_of((2, [], [0, 1], [(0, "a", 1)]), "a"), (2, [], [0, 1], [(0, "a", 1)]), "a")
        self.tells(reader_of((2, [0, 1], [], [(0, "a", 1)]), "a"), (2, [0, 1], [], [(0, "a", 1)]), "a")
        self.tells(reader_of((2, [0, 1], [0, 1], []), "ab"), (2, [0, 1], [0, 1], []), "ab")
        self.tells(Reader((1, [], [], [])), (1, [], [], []), "")

    def test_taken_without_signs(self):
        reader = reader_of(WHOLE, "ab")
        self.assertIsNone(reader.take(""))
        self.tells(reader, WHOLE, "ab")

    def test_words_of_400_signs(self):
        reader = Reader(BOTH)
        for _ in range(400):
            reader.feed("a")
        self.assertEqual((reader.ways(), len(reader)), (2 ** 401, 400))
        self.tells(reader, BOTH, "a" * 400)
        self.refused(TooMany, {"many": 400}, reader.feed, "a")
        self.refused(TooMany, {"many": 400}, reader.take, "a")
        self.assertIsNone(reader.take(""))
        self.tells(reader, BOTH, "a" * 400)
        self.tells(reader.twin(), BOTH, "a" * 400)
        reader.back(399)
        self.tells(reader, BOTH, "a")
        reader.take("a" * 399)
        self.tells(reader, BOTH, "a" * 400)
        reader.back(400)
        self.tells(reader, BOTH, "")
        self.tells(reader_of(crowded(), "ab" * 200), crowded(), "ab" * 200)

    def test_back(self):
        reader = reader_of(WHOLE, "aab")
        reader.back()
        self.tells(reader, WHOLE, "aa")
        reader.back(1)
        self.tells(reader, WHOLE, "a")
        reader.take("ab")
        reader.back(many=3)
        self.tells(reader, WHOLE, "")
        self.refused(Bare, {}, reader.back)

    def test_called_by_name(self):
        reader = Reader(machine=WHOLE)
        reader.take(text="aa")
        reader.feed(sign="b")
        reader.back(many=2)
        self.assertEqual(reader.text(), "a")


class Refused(ReaderCase):

    def test_what_is_no_machine(self):
        for thing, part, number in no_machines() + [(thing, "machine", None) for thing in oddities()]:
            self.refused(NoMachine, {"part": part, "number": number}, Reader, thing)

    def test_what_is_no_sign(self):
        for word in ("", "ab", "a" * 400):
            reader = reader_of(WHOLE, word)
            for thing in oddities() + NO_SIGNS:
                if thing != "a" or not isinstance(thing, str):
                    self.refused(NoSign, {"sign": thing}, reader.feed, thing)
            self.tells(reader, WHOLE, word)

    def test_what_is_no_word(self):
        for word in ("", "ab", "a" * 400):
            reader = reader_of(WHOLE, word)
            for thing, at in NO_WORDS + [(thing, None) for thing in oddities() if not isinstance(thing, str)]:
                self.refused(NoWord, {"at": at}, reader.take, thing)
            self.tells(reader, WHOLE, word)

    def test_too_many_signs(self):
        for many in (1, 5, 399):
            reader = reader_of(WHOLE, "a" * many)
            self.refused(TooMany, {"many": 400}, reader.take, "b" * (401 - many))
            self.refused(TooMany, {"many": 400}, reader.take, "b" * 400)
            self.tells(reader, WHOLE, "a" * many)
            reader.take("b" * (400 - many))
            self.tells(reader, WHOLE, "a" * many + "b" * (400 - many))
            self.refused(TooMany, {"many": 400}, reader.feed, "z")

    def test_what_is_no_number_of_signs(self):
        for word in ("", "ab"):
            reader = reader_of(WHOLE, word)
            for thing in no_numbers(1):
                self.refused(NoNumber, {"number": thing}, reader.back, thing)
                self.refused(NoNumber, {"number": thing}, reader.back, many=thing)
            self.tells(reader, WHOLE, word)

    def test_more_signs_back_than_there_are(self):
        for word in ("", "a", "ab", "a" * 400):
            reader = reader_of(WHOLE, word)
            for many in (len(word) + 1, len(word) + 2, 1000, 10 ** 50):
                self.refused(Bare, {}, reader.back, many)
            self.tells(reader, WHOLE, word)
            if word:
                reader.back(len(word))
                self.tells(reader, WHOLE, "")


class Alike(ReaderCase):

    def test_the_same_machine_and_word(self):
        for machine in machines():
            one = reader_of(machine, "aab")
            other = Reader(copy.deepcopy(machine))
            self.is_false(one == other)
            self.is_true(one != other)
            for sign in "aab":
                other.feed(sign)
            self.is_true(one == other)
            self.is_true(other == one)
            self.is_false(one != other)
            self.is_true(one == one)
            other.feed("a")
            self.is_false(one == other)
            other.back()
            self.is_true(one == other)

    def test_other_words(self):
        # Both words lead alike, but they are not the same.
        self.is_false(reader_of(BOTH, "b") == reader_of(BOTH, "z"))
        self.is_false(reader_of(BOTH, "ab") == reader_of(BOTH, "a"))
        self.is_false(reader_of((1, [0], [0], [(0, "a", 0), (0, "b", 0)]), "ab")
                      == reader_of((1, [0], [0], [(0, "a", 0), (0, "b", 0)]), "ba"))

    def test_other_machines(self):
        many, firsts, lasts, steps = WHOLE
        others = [
            (many + 1, firsts, lasts, steps),
            (many, [0], lasts, steps),
            (many, firsts, [1], steps),
            (many, firsts, lasts, steps[1:]),
            (many, firsts, lasts, steps[::-1]),
            (many, firsts, lasts, sorted(steps)),
            (many, firsts, lasts, [steps[1], steps[0]] + steps[2:]),
        ]
        for word in ("", "b"):
            self.is_true(reader_of(WHOLE, word) == reader_of((many, firsts, lasts, steps), word))
            for other in others:
                self.is_false(reader_of(WHOLE, word) == reader_of(other, word), other)
                self.is_false(reader_of(other, word) == reader_of(WHOLE, word), other)

    def test_things_of_every_kind(self):
        reader = reader_of(WHOLE, "a")
        for thing in oddities() + ["Reader(a)", "a", WHOLE, (WHOLE, "a"), Reader, Thing(), [reader], Always()]:
            self.is_false(reader == thing, thing)
            self.is_true(reader != thing, thing)

    def test_alikeness_changes_nothing(self):
        one = reader_of(WHOLE, "ab")
        other = reader_of(WHOLE, "abb")
        self.is_false(one == other)
        self.tells(one, WHOLE, "ab")
        self.tells(other, WHOLE, "abb")


class Twins(ReaderCase):

    def test_a_twin_goes_on_by_itself(self):
        for word in ("", "a", "aab"):
            one = reader_of(WHOLE, word)
            twin = one.twin()
            self.assertIs(type(twin), Reader)
            self.assertIsNot(twin, one)
            self.is_true(one == twin)
            self.tells(twin, WHOLE, word)
            twin.take("ba")
            self.tells(one, WHOLE, word)
            self.tells(twin, WHOLE, word + "ba")
            one.feed("a")
            self.tells(one, WHOLE, word + "a")
            self.tells(twin, WHOLE, word + "ba")
            one.back(len(one))
            self.tells(one, WHOLE, "")
            twin.back(1)
            self.tells(twin, WHOLE, word + "b")
            again = twin.twin()
            twin.back(len(twin))
            self.tells(again, WHOLE, word + "b")

    def test_two_readers_of_one_machine_have_nothing_in_common(self):
        one = Reader(WHOLE)
        other = Reader(WHOLE)
        one.take("aa")
        self.tells(other, WHOLE, "")


class Own(ReaderCase):

    def test_told_lists_are_the_askers_own(self):
        for word in ("", "a", "aab"):
            reader = reader_of(WHOLE, word)
            for told in (reader.counts(), reader.reached()):
                told[0] = 77
                told.append(5)
            self.tells(reader, WHOLE, word)
            reader.feed("a")
            self.tells(reader, WHOLE, word + "a")
            reader.back()
            self.tells(reader, WHOLE, word)

    def test_what_was_told_stays(self):
        reader = reader_of(WHOLE, "aa")
        told = (reader.counts(), reader.reached())
        before = copy.deepcopy(told)
        reader.feed("b")
        reader.back(2)
        self.assertEqual(told, before)

    def test_what_was_handed_in_may_be_changed(self):
        for part in (1, 2, 3):
            for word in ("", "a"):
                machine = copy.deepcopy(WHOLE)
                reader = reader_of(machine, word)
                machine[part].clear()
                self.tells(reader, WHOLE, word)
                twin = reader.twin()
                reader.take("ab")
                self.tells(reader, WHOLE, word + "ab")
                self.tells(twin, WHOLE, word)
                reader.back(len(word) + 2)
                self.tells(reader, WHOLE, "")
                self.is_true(reader == Reader(WHOLE))

    def test_the_machine_stays_as_it_was(self):
        machine = copy.deepcopy(WHOLE)
        reader = Reader(machine)
        reader.take("aab")
        reader.back()
        reader.twin().feed("z")
        self.assertEqual(machine, WHOLE)
