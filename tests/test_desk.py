"""12.2, 12.3: the desk, its rows, its answers and its refusals in their order."""

import random
import re

from tests.helper import RINGS, Case, chain, machines, oddities
from tests.test_above import VECTORS
from tests.test_otherwise import RULES, WITHIN
from tests.test_positions import crowd
from tests.test_sameness import AHEAD, ANY
from tests.test_slow import FULL, PLAIN
from triesgrow import errors
from triesgrow.above import greatest
from triesgrow.desk import Desk
from triesgrow.errors import (Bare, Doubling, Growing, NoName, NoNumber, NoPattern, NoRow, NoSign, NoText, TooMany)
from triesgrow.growth import growth
from triesgrow.machinetexts import read_machine, shown_machine
from triesgrow.numbering import way_at
from triesgrow.otherwise import put_otherwise
from triesgrow.patterntexts import read, shown
from triesgrow.positions import machine_of
from triesgrow.reader import Reader
from triesgrow.roomtexts import rooms_text
from triesgrow.sameness import parting
from triesgrow.slow import slow_word
from triesgrow.tries import tries_all
from triesgrow.ways import ways

CROWD = shown(crowd([8] * 10))
NAME, WORD, NUMBER = "([a-z]{1,8})", "([a-z]{1,400}|-)", "(0|[1-9][0-9]{0,3})"
# Each row as a whole, what stands in it being taken out.
FORMS = {
    "pattern": f"{NAME} (.*)", "machine": f"{NAME} (.*)", "otherwise": f"{NAME} {NAME}", "made": f"{NAME} {NAME}",
    "drop": NAME, "names": "", "show": NAME, "reads": f"{NAME} {WORD}", "ways": f"{NAME} {WORD}",
    "tries": f"{NAME} {WORD}", "way": f"{NAME} {NUMBER} {WORD}", "grows": NAME, "greatest": NAME,
    "slow": f"{NAME} {NUMBER}", "parting": f"{NAME} {NAME}", "begin": NAME, "feed": WORD, "back": NUMBER, "now": "",
}


def in_row(machine):
    return shown_machine(machine).replace("\n", "; ")


class Model:
    """A desk written down otherwise: what the points tell, row by row, from the functions."""

    def __init__(self):
        self.kept = {}
        self.reader = None

    def say(self, row):
        first = row.split(" ")[0]
        form = FORMS.get(first)
        found = form is not None and re.fullmatch(f"{first} {form}" if form else first, row)
        if not found:
            raise NoRow()
        parts = ["" if part == "-" and first not in ("pattern", "machine") else part for part in found.groups()]
        old = {"pattern": 0, "machine": 0, "names": 0, "feed": 0, "back": 0, "now": 0, "parting": 2}.get(first, 1)
        for name in parts[:old]:
            if name not in self.kept:
                raise NoName(name)
        if first in ("feed", "back", "now") and self.reader is None:
            raise Bare()
        return getattr(self, f"say_{first}")(*parts)

    def machine(self, name):
        thing = self.kept[name]
        return machine_of(read(thing)) if thing[0] != "r" or thing == "r" else read_machine(thing.replace("; ", "\n"))

    def pattern(self, name):
        thing = self.kept[name]
        if thing.startswith("rooms "):
            raise NoPattern(None)
        return read(thing)

    def keep(self, name, text):
        if name not in self.kept and len(self.kept) == 12:
            raise TooMany(12)
        self.kept[name] = text
        return "ok"

    def say_pattern(self, name, text):
        return self.keep(name, shown(read(text)))

    def say_machine(self, name, text):
        return self.keep(name, in_row(read_machine(text.replace("; ", "\n"))))

    def say_otherwise(self, name, new):
        return self.keep(new, shown(put_otherwise(self.pattern(name))))

    def say_made(self, name, new):
        return self.keep(new, in_row(machine_of(self.pattern(name))))

    def say_drop(self, name):
        self.kept.pop(name)
        return "ok"

    def say_names(self):
        return " ".join(sorted(self.kept)) if self.kept else "-"

    def say_show(self, name):
        return self.kept[name]

    def say_reads(self, name, word):
        return "yes" if ways(self.machine(name), word) else "no"

    def say_ways(self, name, word):
        return str(ways(self.machine(name), word))

    def say_tries(self, name, word):
        return str(tries_all(self.machine(name), word))

    def say_way(self, name, number, word):
        return " ".join(map(str, way_at(self.machine(name), word, int(number))))

    def say_grows(self, name):
        return " ".join(map(str, growth(self.machine(name))))

    def say_greatest(self, name):
        many, word = greatest(self.machine(name))
        return "0" if word is None else f"{many} {word or '-'}"

    def say_slow(self, name, number):
        word = slow_word(self.machine(name), int(number))
        return "-" if word is None else word

    def say_parting(self, one, other):
        word = parting(self.machine(one), self.machine(other))
        return "=" if word is None else word or "-"

    def say_begin(self, name):
        self.reader = self.machine(name), Reader(self.machine(name))
        return "ok"

    def say_feed(self, word):
        self.reader[1].take(word)
        return "ok"

    def say_back(self, number):
        self.reader[1].back(int(number))
        return "ok"

    def say_now(self):
        machine, reader = self.reader
        return f"{reader.text() or '-'} {rooms_text(machine, reader.reached())} {reader.ways()}"


def told(desk, row):
    """What the desk answers, or its refusal with its values."""
    try:
        return desk.say(row)
    except Exception as refusal:
        if type(refusal).__module__ != errors.__name__:
            raise
        values = dict(vars(refusal))
        values.pop("pump", None)
        return type(refusal), values


def some_row(chance):
    """A row drawn by chance, most often one that the desk has."""
    name = chance.choice(["a", "b", "c", "abcdefgh", "p", "q", "rooms", "x"] + list("defghij") * chance.randrange(2))
    other = chance.choice(["a", "b", "x", "p", "new"])
    word = chance.choice(["-", "a", "ab", "aab", "ba", "aaaa", "b", "c", "abz"])
    number = chance.choice(["0", "0", "0", "1", "1", "2", "3", "5", "9", "40", "400", "401", "9999"])
    patterns = list(RULES) + list(WITHIN) + ["(a*a*)", "(a|a)*", "((a*a*)a*)", "(a|_)**", "_", "a", CROWD]
    patterns += ["(a", "a)", ""]
    texts = [in_row(machine) for machine in machines() + [chain(3), RINGS, ANY]] + ["rooms 2; first; last; ", "", "a"]
    first = chance.choice(list(FORMS) + ["pattern", "machine", "pattern", "feed", "now"])
    row = {
        "pattern": f"{name} {chance.choice(patterns)}", "machine": f"{name} {chance.choice(texts)}",
        "otherwise": f"{name} {other}", "made": f"{name} {other}", "names": "", "way": f"{name} {number} {word}",
        "slow": f"{name} {number}", "parting": f"{name} {other}", "feed": word, "back": chance.choice("0123"),
        "now": "",
        "reads": f"{name} {word}", "ways": f"{name} {word}", "tries": f"{name} {word}",
    }.get(first, name)
    row = f"{first} {row}" if row or first in ("pattern", "machine") else first
    if chance.random() < 0.06:
        at = chance.randrange(len(row) + 1)
        row = row[:at] + chance.choice([" ", "", "-", "a", "0", "\n", "\t", "A", "; "]) + row[at + chance.randrange(2):]
    return row


class DeskCase(Case):

    def desk(self, *rows):
        """A desk to which these rows were told, all of them answered with ok."""
        desk = Desk()
        for row in rows:
            self.same_kinds(desk.say(row), "ok")
        return desk

    def answers(self, desk, table):
        for row, wanted in table.items():
            self.same_kinds(desk.say(row), wanted)


class Answers(DeskCase):

    def test_patterns_and_machines_by_names(self):
        desk = self.desk("pattern x (a*|b)*", "machine y rooms 2; first 0; last 1; 0 a 1; 1 b 0", "pattern abcdefgh _")
        self.answers(desk, {
            "names": "abcdefgh x y", "show x": "(a*|b)*", "show y": "rooms 2; first 0; last 1; 0 a 1; 1 b 0",
            "show abcdefgh": "_", "otherwise x x": "ok", "made x z": "ok",
            "show z": "rooms 3; first 0; last 0 1 2; 0 a 1; 0 b 2; 1 a 1; 1 b 2; 2 a 1; 2 b 2",
        })
        self.answers(desk, {"show x": "(a*|b)*", "pattern y a**": "ok", "names": "abcdefgh x y z",
                            "otherwise y w": "ok"})
        self.answers(desk, {"show w": "a*", "show y": "a**", "drop w": "ok", "otherwise y y": "ok"})
        self.answers(desk, {"show y": "a*", "made y y": "ok"})
        self.answers(desk, {"show y": "rooms 2; first 0; last 0 1; 0 a 1; 1 a 1", "drop abcdefgh": "ok",
                            "drop y": "ok", "names": "x z", "drop x": "ok", "drop z": "ok"})
        self.answers(desk, {"names": "-"})

    def test_words_of_patterns_and_machines(self):
        desk = self.desk("pattern p (a*a*)", f"machine m {in_row(chain(2))}")
        self.answers(desk, {
            "reads p -": "yes", "reads p aa": "yes", "reads p b": "no", "reads m -": "no", "reads m a": "yes",
            "ways p -": "1", "ways p aaa": "4", "ways m aaa": "3", "ways m ab": "0", "tries p aaa": "10",
            "tries m -": "1", "tries m aaa": "10", "way p 0 -": "0", "way p 2 aaa": "0 1 2 2", "way m 0 a": "0 1",
            "grows p": "power 1", "grows m": "power 1", "slow p 3": "aaaab", "slow m 0": "b",
            "slow m 399": "a" * 399 + "b",
            "parting p m": "-", "parting m p": "-", "parting p p": "=", "parting m m": "=",
        })
        self.same_kinds(desk.say("ways m " + "a" * 400), "400")
        self.same_kinds(desk.say("reads m " + "b" * 400), "no")

    def test_how_ways_grow(self):
        desk = self.desk("pattern d (a|a)*", "pattern n (ab)*", f"machine e {in_row(chain(12))}",
                         "machine f rooms 1; first; last", "machine g rooms 1; first 0; last 0",
                         "pattern h ((a|(aa))|((ab)|a))")
        self.answers(desk, {
            "grows d": "doubles", "grows n": "never", "grows e": "power 11", "grows f": "never",
            "greatest n": "1 -", "greatest f": "0", "greatest g": "1 -", "greatest h": "2 a",
            "slow n 7": "-", "slow f 400": "-", "slow d 2": "aaaaab", "parting d f": "-", "parting n g": "ab",
        })

    def test_the_reader(self):
        desk = self.desk(f"machine m {in_row(chain(3))}", "begin m")
        self.answers(desk, {"now": "- 100 0", "feed aa": "ok"})
        self.answers(desk, {"now": "aa 111 1", "feed -": "ok", "feed aab": "ok"})
        self.answers(desk, {"now": "aaaab 000 0", "back 1": "ok"})
        self.answers(desk, {"now": "aaaa 111 6", "back 4": "ok"})
        self.answers(desk, {"now": "- 100 0", "feed a": "ok", "drop m": "ok", "machine m rooms 1; first; last": "ok"})
        # The reader is one of the machine that stood there when it was begun.
        self.answers(desk, {"now": "a 110 0", "begin m": "ok"})
        self.answers(desk, {"now": "- 0 0"})
        self.answers(self.desk("pattern p (a*a*)", "begin p", "feed aaa", "pattern p b"), {"now": "aaa 011 4"})

    def test_refused_rows_change_nothing_of_the_reader(self):
        desk = self.desk(f"machine m {in_row(chain(2))}", "begin m", "feed " + "a" * 399)
        self.refused(TooMany, {"many": 400}, desk.say, "feed aa")
        self.same_kinds(desk.say("now"), "a" * 399 + " 11 399")
        self.same_kinds(desk.say("feed a"), "ok")
        self.refused(TooMany, {"many": 400}, desk.say, "feed a")
        self.same_kinds(desk.say("feed -"), "ok")
        self.refused(Bare, {}, desk.say, "back 401")
        self.refused(NoNumber, {"number": 0}, desk.say, "back 0")
        self.same_kinds(desk.say("back 400"), "ok")
        self.refused(Bare, {}, desk.say, "back 1")
        self.same_kinds(desk.say("now"), "- 10 0")
        self.refused(NoName, {"name": "n"}, desk.say, "begin n")
        self.same_kinds(desk.say("now"), "- 10 0")
        desk.say(f"pattern p {CROWD}")
        self.refused(TooMany, {"many": 200}, desk.say, "begin p")
        self.same_kinds(desk.say("now"), "- 10 0")

    def test_twelve_names_and_a_thirteenth(self):
        names = ["a", "b", "c", "d", "e", "f", "g", "h", "i", "j", "k", "l"]
        desk = self.desk(*[f"pattern {name} a" for name in names])
        for row in ("pattern m a", "machine m rooms 1; first; last", "otherwise a m", "made a m"):
            self.refused(TooMany, {"many": 12}, desk.say, row)
        self.same_kinds(desk.say("names"), " ".join(names))
        for row in ("pattern c b", "machine d rooms 1; first; last", "otherwise a e", "made a f", "otherwise a a"):
            self.same_kinds(desk.say(row), "ok")
        self.answers(desk, {"show c": "b", "show d": "rooms 1; first; last", "names": " ".join(names)})
        # At last: all that else is refused is refused ahead of it.
        self.refused(NoPattern, {"at": 1}, desk.say, "pattern m a)")
        self.refused(NoText, {"row": 1}, desk.say, "machine m rooms 1; last")
        self.refused(NoPattern, {"at": None}, desk.say, "otherwise d m")
        self.refused(NoPattern, {"at": None}, desk.say, "made d m")
        self.refused(NoName, {"name": "z"}, desk.say, "made z m")
        desk.say(f"pattern a {CROWD}")
        self.refused(TooMany, {"many": 200}, desk.say, "made a m")
        self.refused(TooMany, {"many": 12}, desk.say, "otherwise a m")
        self.answers(desk, {"drop l": "ok", "otherwise a m": "ok", "show m": "[abcdefgh]*"})
        self.refused(TooMany, {"many": 12}, desk.say, "pattern l a")

    def test_two_desks_have_nothing_in_common(self):
        one, other = Desk(), Desk()
        one.say("pattern x a")
        one.say("begin x")
        one.say("feed a")
        self.same_kinds(other.say("names"), "-")
        self.refused(NoName, {"name": "x"}, other.say, "show x")
        self.refused(Bare, {}, other.say, "now")
        other.say("pattern x b")
        other.say("begin x")
        self.same_kinds(one.say("show x"), "a")
        self.same_kinds(one.say("now"), "a 01 1")
        self.same_kinds(other.say("now"), "- 10 0")

    def test_rows_in_drawn_order(self):
        chance = random.Random(163)
        seen = {}
        for _ in range(90):
            desk, model = Desk(), Model()
            for _ in range(120):
                row = some_row(chance)
                wanted = told(model, row)
                self.same_kinds(told(desk, row), wanted)
                key = (row.split(" ")[0], wanted[0] if isinstance(wanted, tuple) else True)
                seen[key] = seen.get(key, 0) + 1
        for first in FORMS:
            self.assertGreater(seen.get((first, True), 0), 3, first)
        for error in (NoRow, NoName, Bare, NoPattern, NoText, NoNumber, TooMany, Growing, Doubling):
            self.assertGreater(sum(many for (_, kind), many in seen.items() if kind is error), 3, error)

    def test_called_by_name(self):
        self.same_kinds(Desk().say(row="names"), "-")


class NoRows(DeskCase):

    def rows_refused(self, desk, rows):
        for row in rows:
            self.refused(NoRow, {}, desk.say, row)

    def ready(self):
        return self.desk("pattern p a", "machine m rooms 1; first; last", "begin p")

    def test_things_of_every_kind(self):
        desk = self.ready()
        self.rows_refused(desk, oddities() + [b"names", ["names"], ("names",), {"names": 1}, ["show", "p"]])
        self.rows_refused(Desk(), oddities())
        self.same_kinds(desk.say("names"), "m p")

    def test_words_too_few_or_too_many(self):
        desk = self.ready()
        self.rows_refused(desk, [
            "pattern", "pattern x", "machine", "machine x", "otherwise", "otherwise p", "otherwise p x y", "made",
            "made p", "made p x y", "drop", "drop p m", "names p", "show", "show p m", "reads", "reads p",
            "reads p a a", "ways p", "tries p", "ways p a b", "tries p a b", "way", "way p", "way p 0", "way p 0 a a",
            "way p a", "grows", "grows p p", "greatest", "greatest p p", "slow", "slow p", "slow p 1 1", "parting",
            "parting p", "parting p p p", "begin", "begin p p", "feed", "feed a a", "back", "back 1 1", "now p",
            "drop ", "show ", "reads p ", "ways p ", "tries p ", "way p 0 ", "way p  a", "grows ", "greatest ",
            "slow p ", "parting p ", "parting  p", "otherwise p ", "made  x", "begin ", "feed ", "back ", "names ",
            "now ", "reads  a",
            "", "p", "say names", "Names", "name", "nows", "NOW", "patterns x a", "feeds a", "names\t", "\tnames",
        ])
        self.same_kinds(desk.say("now"), "- 10 0")

    def test_blanks_ahead_behind_and_twice(self):
        desk = self.ready()
        for row in ("names", "now", "show p", "otherwise p x", "made p x", "drop p", "reads p a", "ways p a",
                    "tries p a", "way p 0 a", "grows p", "greatest p", "slow p 1", "parting p m", "begin p",
                    "feed a", "back 1"):
            self.rows_refused(desk, [" " + row, row + " ", row.replace(" ", "  ", 1) + " " * (" " not in row)])
            self.rows_refused(desk, [row + "\n", "\n" + row, row.replace(" ", "\n") + "\n"])
            self.rows_refused(desk, [row.replace(" ", "\t") + "\t"])
        self.rows_refused(desk, [" pattern x a", "pattern  x a", " machine x rooms 1; first; last", "pattern  a",
                                 "machine  x rooms 1; first; last", "machine x rooms 1\nfirst\nlast", "pattern x a\n",
                                 "pattern x\na", "pattern\nx a", "pattern \nx"])
        self.same_kinds(desk.say("names"), "m p")

    def test_names_words_and_numbers_that_are_none(self):
        desk = self.ready()
        for name in ("abcdefghi", "P", "p1", "-", "_", "1", "p.", "a-b", "\t", "p;"):
            self.rows_refused(desk, [f"pattern {name} a", f"machine {name} rooms 1; first; last", f"otherwise {name} x",
                                     f"otherwise p {name}", f"made p {name}", f"made {name} x", f"drop {name}",
                                     f"show {name}", f"reads {name} a", f"ways {name} a", f"tries {name} a",
                                     f"way {name} 0 a", f"grows {name}", f"greatest {name}", f"slow {name} 1",
                                     f"parting {name} p", f"parting p {name}", f"begin {name}"])
        for word in ("a" * 401, "A", "aB", "a-", "--", "1", "_", "a1", "[ab]", "\t", "a;"):
            self.rows_refused(desk, [f"reads p {word}", f"ways p {word}", f"tries p {word}", f"way p 0 {word}",
                                     f"feed {word}"])
        for number in ("00", "01", "007", "10000", "99999", "-1", "+1", "1.", "a", "-", "0x1", "1_0", "\t1", "0000"):
            self.rows_refused(desk, [f"way p {number} a", f"slow p {number}", f"back {number}"])
        self.same_kinds(desk.say("names"), "m p")

    def test_figures_of_other_kinds(self):
        desk = self.ready()
        self.rows_refused(desk, ["back \u0661", "slow p \u00b2", "way p \uff11 a", "show \u00e9", "feed \u00e4"])

    def test_no_row_ahead_of_all_else(self):
        self.rows_refused(Desk(), ["reads x A", "way x 01 a", "back 00", "feed A", "now now", "parting x",
                                   "made x y z"])

    def test_text_that_is_empty_or_has_blanks(self):
        desk = Desk()
        self.refused(NoPattern, {"at": 0}, desk.say, "pattern x ")
        self.refused(NoText, {"row": 0}, desk.say, "machine x ")
        self.refused(NoPattern, {"at": 0}, desk.say, "pattern x  a")
        self.refused(NoPattern, {"at": 1}, desk.say, "pattern x a ")
        self.refused(NoPattern, {"at": 1}, desk.say, "pattern x a b")
        self.refused(NoPattern, {"at": 0}, desk.say, "pattern x -")
        self.refused(NoPattern, {"at": 2}, desk.say, "pattern x (a")
        self.refused(NoPattern, {"at": None}, desk.say, "pattern x " + "a" + "*" * 12)
        self.refused(NoText, {"row": 0}, desk.say, "machine x  rooms 1; first; last")
        self.refused(NoText, {"row": 2}, desk.say, "machine x rooms 1; first; last ")
        self.refused(NoText, {"row": 3}, desk.say, "machine x rooms 1; first; last; ")
        self.refused(NoText, {"row": 2}, desk.say, "machine x rooms 1; first; last;")
        self.refused(NoText, {"row": 0}, desk.say, "machine x rooms 1;first;last")
        self.refused(NoText, {"row": 0}, desk.say, "machine x rooms 1;; first; last")
        self.refused(NoText, {"row": 1}, desk.say, "machine x rooms 1;  first; last")
        self.refused(NoText, {"row": 1}, desk.say, "machine x rooms 1; ; last")
        self.refused(NoText, {"row": 1}, desk.say, "machine x rooms 1")
        self.same_kinds(desk.say("names"), "-")


class Refusals(DeskCase):

    def test_the_first_name_by_which_nothing_stands(self):
        desk = self.desk("pattern p a")
        for row in ("otherwise x y", "made x y", "drop x", "show x", "reads x a", "ways x a", "tries x a", "way x 0 a",
                    "grows x", "greatest x", "slow x 9999", "parting x y", "parting p x", "parting x p", "begin x"):
            self.refused(NoName, {"name": "x"}, desk.say, row)
        desk.say("drop p")
        self.refused(NoName, {"name": "p"}, desk.say, "show p")
        self.refused(NoName, {"name": "p"}, desk.say, "drop p")

    def test_where_no_reader_was_begun(self):
        for desk in (Desk(), self.desk("pattern p a")):
            for row in ("feed a", "feed -", "back 1", "back 0", "back 9999", "now", "feed " + "a" * 400):
                self.refused(Bare, {}, desk.say, row)

    def test_a_patterns_machine_first(self):
        desk = self.desk(f"pattern p {CROWD}", "pattern q a", f"pattern r {CROWD}")
        for row in ("reads p a", "ways p -", "tries p a", "way p 9999 a", "grows p", "greatest p", "slow p 9999",
                    "parting p q", "parting q p", "parting p r", "begin p", "made p x", "made p p"):
            self.refused(TooMany, {"many": 200}, desk.say, row)
        self.answers(desk, {"show p": CROWD, "otherwise p x": "ok", "reads x abc": "yes", "drop p": "ok"})

    def test_a_machine_that_stands_where_a_pattern_is_wanted(self):
        desk = self.desk("machine m rooms 1; first; last", "pattern p a")
        self.refused(NoPattern, {"at": None}, desk.say, "otherwise m x")
        self.refused(NoPattern, {"at": None}, desk.say, "made m x")
        self.refused(NoPattern, {"at": None}, desk.say, "made m p")
        self.answers(desk, {"show p": "a", "names": "m p"})

    def test_what_the_points_refuse(self):
        desk = self.desk(f"machine c {in_row(chain(2))}", f"machine f {in_row(FULL)}", f"machine n {in_row(PLAIN)}",
                         "pattern d (a|a)*", f"machine v {in_row(VECTORS[2001])}", f"machine any {in_row(ANY)}",
                         f"machine far {in_row(AHEAD[4001])}", "machine none rooms 1; first; last",
                         f"machine e {in_row(chain(12))}")
        self.refused(NoNumber, {"number": 3}, desk.say, "way c 3 aaa")
        self.refused(NoNumber, {"number": 0}, desk.say, "way c 0 -")
        self.refused(NoNumber, {"number": 9999}, desk.say, "way none 9999 a")
        self.refused(NoNumber, {"number": 401}, desk.say, "slow c 401")
        self.refused(NoNumber, {"number": 9999}, desk.say, "slow n 9999")
        self.refused(NoSign, {"sign": None}, desk.say, "slow f 1")
        self.refused(NoSign, {"sign": None}, desk.say, "slow n 0")
        self.refused(TooMany, {"many": 400}, desk.say, "slow c 400")
        self.refused(Growing, {"power": 1}, desk.say, "greatest c")
        self.refused(Growing, {"power": 11}, desk.say, "greatest e")
        self.refused(Doubling, {}, desk.say, "greatest d")
        self.refused(TooMany, {"many": 2000}, desk.say, "greatest v")
        self.refused(TooMany, {"many": 4000}, desk.say, "parting far any")
        self.refused(NoPattern, {"at": 3}, desk.say, "pattern x (ab")
        self.refused(NoText, {"row": 3}, desk.say, "machine x rooms 1; first; last; 0 a 1")
        self.same_kinds(desk.say("names"), "any c d e f far n none v")

    def test_what_is_refused_changes_nothing(self):
        chance = random.Random(167)
        desk = Desk()
        for _ in range(400):
            row = some_row(chance)
            before = [told(desk, each) for each in ("names", "now", *[f"show {name}" for name in "abpqx"])]
            answer = told(desk, row)
            if isinstance(answer, tuple):
                after = [told(desk, each) for each in ("names", "now", *[f"show {name}" for name in "abpqx"])]
                self.assertEqual(before, after)
