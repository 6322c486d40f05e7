"""headgap/desk.py: lines that make, change and ask converters."""

import random
import time

from headgap.arrays import array_for, extra
from headgap.compare import difference
from headgap.converters import Converter
from headgap.desk import Desk
from headgap.errors import BadCommand, HeadError
from headgap.gaps import gap, gap_for
from headgap.joins import beside, common, joined, repeated
from headgap.sizes import least, longest
from headgap.smallest import smallest
from tests.checks import ANYTHING, LINES, Checks
from tests.plain_words import LINES as TABLE
from tests.plain_words import old_names, wrong_line
from tests.samples import EACH, GREAT, NO_TAIL, ODDS, PERCENT, SIX, STUFF

CHANGES = ("let", "join", "beside", "common", "times", "narrow", "rename", "begin", "drop")
L, O, P = f"let l {LINES}", f"let o {ODDS}", f"let p {PERCENT}"
# A line of each kind that can be carried out with l, o and p.
EACH_LINE = ("let n @s s$", "join n l l", "beside n o p", "common n l o", "times n l 2", "narrow l an", "rename l s t", "begin l s", "drop l", "undo",
             "show l", "answer l nan", "longest l 5", "shortest l 5", "ahead l 5", "room l 5", "gap l", "extra l", "least l", "more l o")


class PlainDesk:
    """A desk by its table alone: whole shelves are kept for what can be taken back."""

    def __init__(self):
        self.shelf = {}
        self.past = []

    def number(self, value):
        return "none" if value is None else str(value)

    def changed(self, words, shelf):
        word, first = words[0], words[1]
        new = dict(shelf)
        if word == "let":
            new[first] = Converter.read(" ".join(words[2:]))
        elif word in ("join", "beside", "common"):
            new[first] = {"join": joined, "beside": beside, "common": common}[word](shelf[words[2]], shelf[words[3]])
        elif word == "times":
            new[first] = repeated(shelf[words[2]], int(words[3]))
        elif word == "narrow":
            new[first] = shelf[first].narrowed(*words[2])
        elif word == "rename":
            new[first] = shelf[first].renamed(words[2], words[3])
        elif word == "begin":
            new[first] = shelf[first].begun(words[2])
        else:
            del new[first]
        return new

    def asked(self, words, converter):
        word = words[0]
        if word == "answer":
            return converter(words[2].replace("-", "")) or "-"
        if word in ("longest", "shortest", "ahead", "room"):
            growth = {"longest": longest, "shortest": least, "ahead": gap_for, "room": array_for}[word](converter)
            return self.number(growth(int(words[2])))
        if word in ("gap", "extra"):
            told = (gap if word == "gap" else extra)(converter)
            return f"{'enough' if word == 'gap' else 'fits'} {told.number}" if told else {"gap": "never", "extra": "beyond"}[word]
        if word == "least":
            told = smallest(converter)
            return str(len({state for state, _ in told.steps} | set(told.tails)))
        if word == "more":
            told = difference(converter, self.shelf[words[2]])
            return "none" if told is None else f"most {told.number}" if told else "never"
        return str(converter)

    def say(self, line):
        if type(line) is not str:
            raise BadCommand(0)
        wrong = wrong_line(line)
        if wrong is not None:
            raise BadCommand(wrong)
        words = line.split(" ")
        for name in old_names(line):
            if name not in self.shelf:
                return f"no {name}"
        if words[0] == "undo":
            if not self.past:
                return "nothing"
            self.shelf = self.past.pop()
            return "ok"
        try:
            if words[0] not in CHANGES:
                return self.asked(words, self.shelf[words[1]])
            new = self.changed(words, self.shelf)
        except HeadError as error:
            return f"refused {type(error).__name__}"
        self.past.append(self.shelf)
        self.shelf = new
        return "ok"


def seen(desk):
    """What can be seen of a desk: its names and converters, and how much can be taken back."""
    return [desk.names, [desk(f"show {name}") for name in desk.names], len(desk)]


def desk_with(*lines):
    desk = Desk()
    desk.run(*lines)
    return desk


class Said(Checks):
    def bad(self, desk, word, line):
        before = seen(desk)
        for work in (desk.say, desk, desk.run):
            self.refused(BadCommand, [word], work, line)
        self.equal(seen(desk), before)

    def test_each_line(self):
        desk = desk_with(L, O, P)
        self.equal(desk.run("let n @s s$", "show n", "join n l l", "show n", "beside n o p", "show n", "common n l o", "show n", "times n l 2", "show n"),
                   ["ok", "@s s$", "ok", "@a a:a>a>a a$", "ok", str(beside(ODDS, PERCENT)), "ok", "@a a:a>a>b b:a>a>a b$", "ok",
                    "@s s:a>aa>s s:n>rnrn>s s$"])
        self.equal(desk.run("narrow l a", "show l", "undo", "rename l s t", "show l", "undo", "begin l q", "show l", "undo", "drop l", "show l", "undo", "show l"),
                   ["ok", "@s s:a>a>s s$", "ok", "ok", "@t t:a>a>t t:n>rn>t t$", "ok", "ok", "@q s:a>a>s s:n>rn>s s$", "ok", "ok", "no l", "ok", str(LINES)])
        self.equal(desk.run("answer l nan", "answer l -", "longest l 5", "shortest l 5", "ahead l 5", "room l 5", "gap l", "extra l", "least l", "more l l", "more l p"),
                   ["rnarn", "-", "10", "5", "4", "10", "never", "fits 0", "1", "most 0", "most 0"])

    def test_questions_of_converters(self):
        for converter in [*EACH, *GREAT[:20]]:
            desk, plain = desk_with(f"let a {converter}"), PlainDesk()
            plain.say(f"let a {converter}")
            for line in ("show a", "answer a -", "answer a a", "answer a aca", "longest a 7", "shortest a 7", "ahead a 7", "room a 7", "longest a 0",
                         "room a 1000000000000000000000000000000", "gap a", "extra a", "least a", "more a a"):
                self.equal(desk(line), plain.say(line))

    def test_refused_ones(self):
        desk = desk_with(L, O, P, f"let e {NO_TAIL}", f"let six {SIX}", f"let y {STUFF}", "let z @s s:a>a>t s:b>b>t t:a>a>s t:b>b>s s$ t$")
        for line, told in (("gap e", "NoText"), ("extra e", "NoText"), ("answer l z", "NoStep"), ("answer o aa", "NoTail"), ("rename l t s", "NoState"),
                           ("rename six a b", "Taken"), ("begin six z", "TooMany"), ("join n y z", "TooMany"), ("beside n l l", "Taken"), ("common n six y", "TooMany"),
                           ("times n six 2", "TooMany"), ("let n @s a:a>>b b:a>>c c:a>>d d:a>>e e:a>>f", "TooMany"), ("let n @s s:a>>s s:b>>s s:c>>s s:d>>s s:e>>s", "TooMany"),
                           ("let l @s a:a>>b b:a>>c c:a>>d d:a>>e e:a>>f", "TooMany"), ("times l l 3", "TooMany")):
            before = seen(desk)
            self.equal(desk(line), f"refused {told}")
            self.equal(seen(desk), before)
        self.equal([desk("least e"), desk("longest e 5"), desk("ahead e 5"), desk("room e 5"), desk("more e l"), desk("more l e")],
                   ["0", "none", "none", "none", "none", "none"])

    def test_names_without_a_converter(self):
        desk = desk_with(L)
        for line, name in (("show x", "x"), ("join n x y", "x"), ("join n l y", "y"), ("join x l y", "y"), ("join n y l", "y"), ("times n x 2", "x"), ("narrow x aaa", "x"),
                           ("rename x s t", "x"), ("begin x s", "x"), ("drop x", "x"), ("answer x zz", "x"), ("longest x 5", "x"), ("gap x", "x"), ("extra x", "x"),
                           ("least x", "x"), ("more x y", "x"), ("more l y", "y"), ("more y l", "y"), ("beside n l n", "n"), ("common n n n", "n")):
            before = seen(desk)
            self.equal(desk(line), f"no {name}")
            self.equal(seen(desk), before)
        # A name that is made needs none, and the names of states are others.
        self.equal(desk.run("join x l l", "rename l s y", "begin l z", "show l"), ["ok", "ok", "ok", "@z y:a>a>y y:n>rn>y y$"])

    def test_each_word_wrong_lacking_or_too_many(self):
        desk = desk_with(L, O, P)
        for line in EACH_LINE:
            words = line.split(" ")
            self.equal(wrong_line(line), None)
            self.bad(desk, len(words), line + " x")
            self.bad(desk, len(words), line + " ")
            self.bad(desk, 0, " " + line)
            for k in range(len(words)):
                if k > 0 and (words[0] != "let" or k < 3):
                    self.bad(desk, k, " ".join(words[:k]))
                for word in ("", "A", "l!", "1x", "\n", "$", "-1", "--"):
                    self.bad(desk, k, " ".join([*words[:k], word, *words[k + 1:]]))
                    self.bad(desk, k, " ".join([*words[:k], word, "?", "? ?"]))
        for value in ANYTHING:
            if type(value) is not str or value not in TABLE:
                self.bad(desk, 0, value)

    def test_words_at_their_bounds(self):
        desk = desk_with(L)
        for line, word in (("show abcdefghi", 1), ("let abcdefghi @s", 1), ("answer l " + "a" * 401, 2), ("answer l ", 2), ("answer l a-", 2), ("longest l -", 2),
                           ("longest l 01", 2), ("longest l -0", 2), ("longest l +1", 2), ("longest l " + str(10 ** 30 + 1), 2), ("longest l " + "9" * 61, 2),
                           ("longest l " + "9" * 31, 2), ("times n l 5", 3), ("times n l -1", 3), ("times n l 04", 3), ("times n l 10", 3), ("times n l x", 3), ("narrow l -", 2),
                           ("narrow l aB", 2), ("narrow l ", 2), ("rename l s -", 3), ("undo undo", 1), ("Undo", 0), ("", 0), (" ", 0), ("-", 0), ("let", 1), ("let l", 2),
                           ("let l ", 2), ("let  @s", 1), ("let l @", 2), ("let l s:a>a>s", 2), ("let l @s s:a>s", 3), ("let l @s s:b>>s s:a>>s", 4), ("let l @s s$ s:a>>s", 4),
                           ("let l @s ", 3), ("let l @s  s$", 3), ("let l @abcdefghi", 2), ("lets l @s", 0), ("let\nl @s", 0), ("show l\n", 1)):
            self.equal(wrong_line(line), word)
            self.bad(desk, word, line)
        for line, told in (("answer l " + "a" * 400, "a" * 400), ("longest l " + str(10 ** 30), str(2 * 10 ** 30)), ("longest l 0", "0"), ("times n l 0", "ok"),
                           ("times n l 2", "ok"), ("show n", "@s s:a>aa>s s:n>rnrn>s s$"), ("let abcdefgh @abcdefgh", "ok"), ("show abcdefgh", "@abcdefgh")):
            self.equal(desk(line), told)

    def test_letters_to_narrow(self):
        for word, told in (("a", "@s s:a>a>s s$"), ("aa", "@s s:a>a>s s$"), ("zan", str(LINES)), ("nnnnaaaa", str(LINES)), ("z", "@s s$"), ("zn" * 1400, "@s s:n>rn>s s$")):
            desk = desk_with(L)
            self.equal(desk.run(f"narrow l {word}", "show l", "undo", "show l"), ["ok", told, "ok", str(LINES)])

    def test_names(self):
        desk = Desk()
        self.equal([desk.names, len(desk), desk("undo")], [(), 0, "nothing"])
        desk.run("let z @s", "let a @s", "let mm @s", "let m @s")
        self.equal([desk.names, len(desk)], [("a", "m", "mm", "z"), 4])
        desk.run("drop m", "join b a a", "undo", "undo", "undo", "drop z")
        self.equal([desk.names, len(desk)], [("a", "mm"), 4])
        # Names that are first words, too.
        self.equal(desk_with("let let @let let$", "let undo @s s$").run("show let", "more let undo", "drop undo", "undo", "undo", "show undo"),
                   ["@let let$", "most 0", "ok", "ok", "ok", "no undo"])

    def test_by_name(self):
        desk = Desk()
        self.equal([desk.say(line=L), desk(line="show l"), desk.run(), desk.run("show l")], ["ok", str(LINES), [], [str(LINES)]])
        self.assertRaises(AttributeError, setattr, desk, "names", ())

    def test_returned_lists(self):
        desk = desk_with(L)
        told = desk.run("show l", "gap l")
        told.clear()
        self.equal([desk.run("show l", "gap l"), desk.names], [[str(LINES), "never"], ("l",)])

    def test_equal_to_nothing_else(self):
        desk = Desk()
        self.equal([desk == value for value in [*ANYTHING, Desk()]], [False] * (len(ANYTHING) + 1))
        self.equal(desk == desk, True)


class Undo(Checks):
    def test_line_by_line(self):
        desk = Desk()
        lines = (L, O, P, "narrow l a", "join n o o", "join n l l", f"let l {STUFF}", "times p p 1", "rename l p pp", "begin l q", "drop o", "drop l", "let l @s")
        before = []
        for line in lines:
            before.append(seen(desk))
            self.equal([desk(line), len(desk)], ["ok", len(before)])
        while before:
            self.equal([desk("undo"), seen(desk)], ["ok", before.pop()])
        self.equal([desk("undo"), desk("undo"), desk.names, len(desk)], ["nothing", "nothing", (), 0])

    def test_what_counts(self):
        desk = desk_with(L)
        # Lines that change nothing can be taken back, questions and refused lines cannot.
        desk.run(L, "narrow l an", "rename l s s", "begin l s", "times l l 1")
        self.equal([len(desk), desk("show l")], [6, str(LINES)])
        desk.run("show l", "gap l", "drop x", "rename l x y", "times l l 4", "join n l x", "more l l")
        self.equal(len(desk), 6)
        self.equal([desk.run(*["undo"] * 5), len(desk), desk.names, desk("undo"), desk.names, desk("undo")], [["ok"] * 5, 1, ("l",), "ok", (), "nothing"])

    def test_undo_is_none_of_them(self):
        desk = desk_with(L, O)
        self.equal(desk.run("undo", "undo", "undo", O, "undo", "undo"), ["ok", "ok", "nothing", "ok", "ok", "nothing"])

    def test_replaced_names(self):
        desk = desk_with(L, f"let n {ODDS}", f"let n {PERCENT}", "join n l l", "drop n", "let n @s")
        self.equal(desk.run("show n", "undo", "show n", "undo", "show n", "undo", "show n", "undo", "show n", "undo", "show n", "undo", "undo"),
                   ["@s", "ok", "no n", "ok", "@a a:a>a>a a$", "ok", str(PERCENT), "ok", str(ODDS), "ok", "no n", "ok", "nothing"])

    def test_many_lines(self):
        desk = Desk()
        for k in range(3000):
            desk(f"let n @{'abcdefgh'[k % 8]}")
        self.equal(len(desk), 3000)
        for k in reversed(range(2999)):
            desk("undo")
            if k % 500 == 0:
                self.equal(desk("show n"), f"@{'abcdefgh'[k % 8]}")
        self.equal([desk("undo"), desk("undo"), desk.names], ["ok", "nothing", ()])


class Runs(Checks):
    def test_all_or_nothing(self):
        desk = desk_with(L, O)
        before = seen(desk)
        for lines, word in ((("drop l", "let x @s", "what"), 0), (("undo", "undo", "undo", "show"), 1), (("rename l s t", "narrow o b", "times n l 9"), 3),
                            (("drop l", None), 0), ((None, "drop l"), 0), (("drop l", "undo", "undo", "let l @s", "let l @s s:a"), 3), (("gap l", "gap l x"), 2)):
            self.refused(BadCommand, [word], desk.run, *lines)
            self.equal(seen(desk), before)
        self.equal([desk.run("undo", "show o", "show l"), len(desk)], [["ok", "no o", str(LINES)], 1])

    def test_lines_that_are_refused_end_nothing(self):
        desk = desk_with(L)
        self.equal(desk.run("answer l z", "gap x", "drop l", "gap l", "undo", "gap l"), ["refused NoStep", "no x", "ok", "no l", "ok", "never"])

    def test_what_was_done_ahead_can_be_taken_back(self):
        desk = desk_with(L, O)
        desk("drop l")
        self.refused(BadCommand, [0], desk.run, "undo", "undo", L, "")
        self.equal([desk.names, len(desk), desk("undo"), desk.names], [("o",), 3, "ok", ("l", "o")])


class AgainstATable(Checks):
    def line(self, chance):
        """A line of the table, perhaps with a word otherwise."""
        names = ("a", "b", "c", "d", "e")
        word = chance.choice([*TABLE, "let", "let", "let", "undo"])
        if word == "let":
            line = f"let {chance.choice(names)} {chance.choice(EACH)}"
        else:
            words = [word]
            for pattern in TABLE[word]:
                kind = pattern.removeprefix("old ")
                if pattern.startswith("old "):
                    words.append(chance.choice(names))
                elif kind == "[a-z]{1,8}":
                    words.append(chance.choice((*names, "s", "t", "u")))
                elif kind == "[0-4]":
                    words.append(chance.choice("01234"))
                elif kind == "[a-z]+":
                    words.append(chance.choice(("a", "an", "nca", "ab", "zz")))
                elif kind.startswith("-"):
                    words.append(chance.choice(("-", "a", "aa", "aca", "naan")))
                else:
                    words.append(str(chance.choice((0, 1, 2, 7, 50, 10 ** 12, 10 ** 30))))
            line = " ".join(words)
        if chance.random() < 0.15:
            words = line.split(" ")
            at = chance.randrange(len(words) + 1)
            words[at:at + chance.choice((0, 1, 1))] = chance.choice(([], ["x"], [""], ["-"], ["5"], ["A"], ["1" + "0" * 31], ["s$"], ["s:a>>s"]))
            line = " ".join(words)
        return line

    def test_rows_of_lines(self):
        chance = random.Random(12)
        found = {}
        for k in range(25):
            desk, plain = Desk(), PlainDesk()
            for _ in range(120):
                line = self.line(chance)
                told = self.outcome(desk.say, line)
                self.equal(told, self.outcome(plain.say, line))
                self.equal([desk.names, len(desk)], [tuple(sorted(plain.shelf)), len(plain.past)])
                kind = told[0] if type(told[0]) is str and told[0] == "BadCommand" else told[1].split(" ")[0]
                found[kind] = found.get(kind, 0) + 1
            self.equal(seen(desk)[1], [str(plain.shelf[name]) for name in desk.names])
            again = Desk()
            for name in desk.names:
                again(f"let {name} {desk(f'show {name}')}")
            # A desk that is told the converters as another one shows them answers each further line alike.
            for _ in range(25):
                line = self.line(chance)
                if not line.startswith("undo"):
                    self.equal(self.outcome(desk.say, line), self.outcome(again.say, line))
            while desk("undo") == "ok":
                pass
            self.equal(desk.names, ())
        self.assertLessEqual({"BadCommand", "ok", "no", "refused", "enough", "never", "fits", "most", "none"}, set(found))

    def test_rows_at_once(self):
        chance = random.Random(13)
        for k in range(150):
            desk, plain = Desk(), PlainDesk()
            for _ in range(3):
                lines = [self.line(chance) for _ in range(6)]
                before = seen(desk)
                wrong = [wrong_line(line) for line in lines if wrong_line(line) is not None]
                if wrong:
                    self.refused(BadCommand, [wrong[0]], desk.run, *lines)
                    self.equal(seen(desk), before)
                else:
                    self.equal(desk.run(*lines), [plain.say(line) for line in lines])

    def outcome(self, work, line):
        try:
            return "", work(line)
        except BadCommand as error:
            return "BadCommand", error.word


class Numbers(Checks):
    def test_stuffing_behind_k_letters(self):
        # Behind k times a one letter more is written.
        for k in range(1, 6):
            names = "pqrst"[:k]
            words = [f"@{names[0]}"]
            for at, name in enumerate(names):
                words += [f"{name}:a>{'a' if at < k - 1 else 'ab'}>{names[(at + 1) % k]}", f"{name}:b>b>{names[0]}"]
            desk = desk_with(f"let x {' '.join([*words, *[f'{name}$' for name in names]])}")
            for n in (0, 1, k, k + 1, 10 ** 12, 10 ** 30 - 1, 10 ** 30):
                ahead = (n - 1) // k if n > 0 else 0
                self.equal(desk.run(f"longest x {n}", f"shortest x {n}", f"ahead x {n}", f"room x {n}", "gap x", "extra x", "least x"),
                           [str(n + n // k), str(n), str(ahead), str(n + n // k), "never", "fits 0", str(k)])

    def test_percent_codes(self):
        desk = desk_with(P, "let copy @s s:f>f>s s:p>p>s s:x>x>s s$", "join j p copy", "join k copy p")
        for name in "pjk":
            for n in (0, 1, 2, 3, 10 ** 12, 10 ** 12 + 1, 10 ** 30 - 1, 10 ** 30):
                # Three letters are one; what is left over writes a letter for each.
                self.equal(desk.run(f"longest {name} {n}", f"shortest {name} {n}", f"ahead {name} {n}", f"room {name} {n}"),
                           [str(n), str(n // 3 + n % 3), "0", str(n)])
            self.equal(desk.run(f"gap {name}", f"extra {name}", f"least {name}", f"more {name} copy", f"more copy {name}"),
                       ["enough 0", "fits 0", "3", "most 0", "never"])

    def test_line_ends(self):
        desk = desk_with(L, "let back @s s:a>a>s s:r>>t t:n>n>s s$", "join c l back", "times d l 2", "common e l c")
        for n in (0, 1, 10 ** 12, 10 ** 30):
            self.equal(desk.run(*[f"longest {name} {n}" for name in "lcde"], f"room d {n}", f"ahead d {n}"),
                       [str(2 * n), str(n), str(4 * n), str(2 * n), str(4 * n), str(max(0, 3 * (n - 1)))])

    def test_time(self):
        begun = time.perf_counter()
        desk = desk_with(f"let x {SIX}", f"let y {STUFF}")
        for line in ("longest x 5", "room x 1000000000000000000000000000000", "gap x", "extra x", "least x", "more x y", "more y x", "join z x y", "common z y x") * 10:
            desk(line)
        self.assertLess(time.perf_counter() - begun, 1)
