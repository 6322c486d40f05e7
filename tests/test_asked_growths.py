"""headgap/desk.py: many questions for lengths, gaps and arrays, one behind the other, and what is done between them."""

import random

from headgap.arrays import array_for
from headgap.converters import Converter
from headgap.desk import Desk
from headgap.errors import BadCommand
from headgap.gaps import gap_for
from headgap.sizes import least, longest
from tests.checks import LINES, Checks, lines_run
from tests.plain_sizes import far_values, rows
from tests.samples import EACH, EMPTY, FALLS, LATE, NO_TAIL, ODDS, RESTS, SIX, STUFF

# Behind six times a one letter more is written.
WORDS = "p:a>a>q p:b>b>p q:a>a>r q:b>b>p r:a>a>s r:b>b>p s:a>a>t s:b>b>p t:a>a>u t:b>b>p u:a>ab>p u:b>b>p p$ q$ r$ s$ t$ u$"
LET, COPY = f"let w @p {WORDS}", "let e @e e:a>a>e e:b>b>e e$"
MADE = (COPY, "join v w e", "rename w p first", "join x e w", "times y w 2")
PLACES = (0, 1, 2, 5, 6, 7, 12, 13, 1000, 10 ** 30)
FUNCTIONS = {"longest": longest, "shortest": least, "ahead": gap_for, "room": array_for}
ASKED = tuple(FUNCTIONS)


def asked(name, places=PLACES):
    """The lines that ask for the growths of a converter."""
    return [f"{word} {name} {n}" for n in places for word in ASKED]


def stuffed(n):
    """What w is answered: the greatest and the least length, the gap, the array."""
    ahead = (n - 1) // 6 if n > 0 else 0
    return [n + n // 6, n, ahead, max(n + n // 6, n + ahead)]


def doubled(n):
    """What is answered if each answer of w is written twice."""
    ahead = n - 1 + 2 * ((n - 1) // 6) if n > 0 else 0
    return [2 * (n + n // 6), 2 * n, ahead, max(2 * (n + n // 6), n + ahead)]


def copied(n):
    """What is answered if each letter is written as it is."""
    return [n, n, 0, n]


def told(work, places=PLACES):
    """The answers to the lines of asked."""
    return [str(value) for n in places for value in work(n)]


def fresh(desk, name, places):
    """The answers to the lines of asked, by the functions and a converter that is read anew."""
    converter = Converter.read(desk(f"show {name}"))
    values = [FUNCTIONS[word](converter)[n] for n in places for word in ASKED]
    return ["none" if value is None else str(value) for value in values]


def many_numbers():
    """Ten numbers of each of a few converters, also behind a name is begun anew and behind undo."""
    return [LET, *asked("w"), *MADE, *asked("v"), *asked("w"), *asked("x"), *asked("y"), "let w @e e:a>a>e e$", *asked("w"), "undo", *asked("w")]


def made_anew():
    """Each question is asked of a converter that was just made."""
    return [line for _ in range(12) for line in (LET, *asked("w", PLACES[-1:]), *MADE, *[part for name in "vwxy" for part in asked(name, PLACES[-1:])])]


class Answers(Checks):
    def asks(self, desk, **works):
        for name, work in works.items():
            self.equal(desk.run(*asked(name)), told(work))

    def desk(self):
        desk = Desk()
        desk.run(LET, *MADE)
        return desk

    def test_each_converter(self):
        desk = Desk()
        self.equal(desk.run(LET, *asked("w")), ["ok", *told(stuffed)])
        self.equal(desk.run(*MADE), ["ok"] * 5)
        self.asks(desk, w=stuffed, v=stuffed, x=stuffed, y=doubled, e=copied)
        # Each of the four may be the first one that is asked.
        for word, place in zip(ASKED, range(4)):
            desk = self.desk()
            for name, work in (("w", stuffed), ("v", stuffed), ("x", stuffed), ("y", doubled), ("e", copied)):
                self.equal(desk.run(*[f"{word} {name} {n}" for n in PLACES]), [str(work(n)[place]) for n in PLACES])
                self.equal(desk.run(*asked(name)), told(work))

    def test_numbers_as_they_stand(self):
        desk = self.desk()
        self.equal(desk.run("longest w 13", "shortest w 13", "ahead w 13", "room w 13", "ahead y 13", "room y 13", "longest w 1000", "ahead w 1000", "room y 0"),
                   ["15", "13", "2", "15", "16", "30", "1166", "166", "0"])
        self.equal([desk(f"longest w {10 ** 30}"), desk(f"ahead w {10 ** 30}")], ["11" + "6" * 29, "1" + "6" * 29])

    def test_a_name_begun_anew(self):
        desk = self.desk()
        self.asks(desk, w=stuffed, x=stuffed)
        desk("let w @e e:a>a>e e$")
        self.asks(desk, w=copied, x=stuffed)
        desk("times w y 1")
        self.asks(desk, w=doubled, y=doubled)
        # Converters that were made of what had the name before stay as they were made.
        desk.run("times e e 0", "join w v v", "drop v")
        self.equal(desk.run("longest e 5", "room e 5", "longest v 5", "longest w 6", "longest w 12", "longest x 12"), ["0", "5", "no v", "8", "16", "14"])

    def test_changed_names(self):
        desk = self.desk()
        self.asks(desk, w=stuffed)
        for line, back in (("begin w u", "begin w first"), ("rename w u v", "rename w v u"), ("narrow w ab", "narrow w ba")):
            for part in (line, back):
                self.equal(desk(part), "ok")
                self.equal(desk.run(*asked("w")), fresh(desk, "w", PLACES))
        self.asks(desk, w=stuffed)
        desk("begin w u")
        # The first a writes one letter more.
        self.equal(desk.run("longest w 1", "longest w 7", "ahead w 1", "ahead w 2", "shortest w 7"), ["2", "9", "0", "1", "7"])
        desk("narrow w b")
        self.asks(desk, w=copied)
        desk("narrow w z")
        self.equal(desk.run("longest w 0", "longest w 1", "room w 0", "room w 1", "ahead w 1"), ["0", "none", "0", "none", "none"])

    def test_undo(self):
        desk = self.desk()
        self.asks(desk, w=stuffed, y=doubled)
        desk.run("let w @e e:a>a>e e$", "drop y", "times x x 2", "narrow v b")
        self.asks(desk, w=copied, x=doubled, v=copied)
        self.equal(desk("longest y 5"), "no y")
        desk.run("undo", "undo", "undo")
        self.asks(desk, w=copied, x=stuffed, v=stuffed, y=doubled)
        self.equal(desk("undo"), "ok")
        self.asks(desk, w=stuffed)
        desk.run("undo", "undo", "undo")
        self.equal(desk.run("longest y 5", "longest x 5"), ["no y", "no x"])
        self.asks(desk, w=stuffed, v=stuffed, e=copied)
        desk.run("undo", "undo", "undo", LET)
        self.asks(desk, w=stuffed)

    def test_runs_that_fail(self):
        desk = self.desk()
        self.asks(desk, w=stuffed)
        self.refused(BadCommand, [2], desk.run, "let w @e e:a>a>e e$", *asked("w"), "begin x u", *asked("x"), "undo", "undo", "longest w -1")
        self.asks(desk, w=stuffed, x=stuffed, y=doubled)

    def test_words_come_first_then_names(self):
        desk = self.desk()
        self.asks(desk, w=stuffed)
        for word in ASKED:
            for line, at in ((f"{word} w", 2), (f"{word} w 01", 2), (f"{word} w {10 ** 30 + 1}", 2), (f"{word} w 5 5", 3), (f"{word} W 5", 1), (f"{word} z", 2)):
                self.refused(BadCommand, [at], desk.say, line)
            self.equal([desk(f"{word} z 5"), desk(f"{word} w 5")], ["no z", told(stuffed, [5])[ASKED.index(word)]])

    def test_no_text_is_taken(self):
        for converter in EMPTY:
            desk = Desk()
            desk(f"let n {converter}")
            self.equal(desk.run(*asked("n"), *asked("n")), ["none"] * 80)
            desk.run(f"let n {LINES}", *asked("n"), "undo")
            self.equal(desk.run(*asked("n")), ["none"] * 40)

    def test_of_many_converters(self):
        far = 10 ** 30
        desk = Desk()
        for converter in [*EACH, FALLS]:
            # All have one name, so each answer is one of the last converter.
            desk(f"let n {converter}")
            found = {word: [*rows(converter, word, 61), *far_values(converter, word, [far])] for word in ("longest", "least", "gap")}
            for n, at in ((0, 0), (1, 1), (2, 2), (7, 7), (61, 61), (far, 62)):
                values = [found[word][at].get(converter.start) for word in found]
                room = None if values[0] is None else max(values[0], n + values[2])
                self.equal(desk.run(*asked("n", [n])), ["none" if value is None else str(value) for value in [*values, room]])

    def test_rows_of_lines(self):
        chance = random.Random(20)
        some = [LINES, STUFF, ODDS, RESTS, LATE, SIX, NO_TAIL, Converter.read(f"@p {WORDS}")]
        for _ in range(12):
            desk = Desk()
            for _ in range(60):
                name, other, third = (chance.choice("abc") for _ in range(3))
                state = chance.choice("pqrstu")
                desk(chance.choice((f"let {name} {chance.choice(some)}", f"let {name} {chance.choice(some)}", f"join {name} {other} {third}", f"common {name} {other} {third}",
                                    f"times {name} {other} {chance.randrange(3)}", f"rename {name} {state} {chance.choice('pqrstuz')}", f"begin {name} {state}",
                                    f"narrow {name} {chance.choice(('a', 'b', 'an', 'ab'))}", f"drop {name}", "undo", "undo")))
                for name in desk.names:
                    places = [chance.choice((0, 1, 3, 6, 50, 72, 10 ** 30))]
                    self.equal(desk.run(*asked(name, places)), fresh(desk, name, places))


class Effort(Checks):
    """How many lines of Python are run: the same on each machine, whatever else it does."""

    def carry_out(self, lines):
        desk = Desk()
        for line in lines:
            desk(line)

    def test_many_numbers(self):
        # They were more than five millions.
        self.assertLess(lines_run(self.carry_out, many_numbers()), 150000)

    def test_made_anew(self):
        # They were more than five millions, too; nothing that was made before can be asked again here.
        self.assertLess(lines_run(self.carry_out, made_anew()), 700000)

    def test_each_function(self):
        converter = Converter.read(f"@p {WORDS}")
        # They were about twenty thousand, and twice as many for array_for.
        for work, most in ((longest, 2500), (least, 2500), (gap_for, 2500), (array_for, 6000)):
            self.assertLess(lines_run(work, converter), most)
        for converter in EACH:
            self.assertLess(lines_run(longest, converter), 15000)

    def test_asked_again(self):
        desk = Desk()
        desk.run(LET, *asked("w"), "let w @e e:a>a>e e$", *asked("w"))
        # What was asked before is not made again, also behind undo, and behind states are named otherwise.
        for between in ("undo", "rename w p first"):
            desk(between)
            for line in asked("w"):
                self.assertLess(lines_run(desk, line), 200, line)
