"""headgap/converters.py: making converters, running them, asking them, and their texts."""

from headgap.converters import Converter
from headgap.errors import (
    BadConverter, BadLetter, BadName, BadText, BadWord, NoState, NoStep, NoTail, TooMany)
from tests.checks import ANYTHING, LINES, TWICE, Checks

NAMES = ("a", "abcdefgh")
NO_NAMES = [value for value in ANYTHING if value not in NAMES]
NO_LETTERS = [value for value in ANYTHING if value != "a"]
NO_ANSWERS = [value for value in ANYTHING if value not in ("", "a")] + ["abcde"]
NO_DICTS = [value for value in ANYTHING if not isinstance(value, dict)]
NO_GOALS = [value for value in ANYTHING if value != ("a", "b")]
ODD = Converter.read("@p p:a>x>q q:a>>p p$")
WIDE = Converter.read("@f a:b>wxyz>b b:c>>c c:d>>d d:a>>e e$abcd")


class Making(Checks):
    def test_attributes(self):
        converter = Converter("t", {("s", "n"): ("rn", "u"), ("a", "b"): ("", "s")}, {"z": "q"})
        self.equal(list(vars(converter)), ["start", "states", "letters", "steps", "tails"])
        self.equal((converter.start, converter.states), ("t", ("a", "s", "t", "u", "z")))
        self.equal((converter.letters, converter.tails), (("b", "n"), {"z": "q"}))
        self.equal(converter.steps, {("s", "n"): ("rn", "u"), ("a", "b"): ("", "s")})

    def test_least_converter(self):
        converter = Converter("s", {}, {})
        self.equal((converter.states, converter.letters, len(converter), str(converter)), (("s",), (), 1, "@s"))

    def test_by_names(self):
        self.equal(Converter(tails={"s": ""}, start="s", steps={}) == Converter.read("@s s$"), True)

    def test_class_values(self):
        self.equal((Converter.MOST, Converter.LONGEST, LINES.MOST, LINES.LONGEST), (6, 4, 6, 4))

    def test_starts(self):
        for value in NO_NAMES:
            self.refused(BadName, [value], Converter, value, {}, {})
            self.refused(BadName, [value], Converter, value, None, None)
        self.equal(Converter("abcdefgh", {}, {}).states, ("abcdefgh",))

    def test_wrong_steps(self):
        good = ("s", "a"), ("x", "s")
        for value in NO_DICTS:
            self.refused(BadConverter, ["steps"], Converter, "s", value, {})
            self.refused(BadConverter, ["steps"], Converter, "s", value, 5)
        for value in NO_GOALS:
            self.refused(BadConverter, ["steps"], Converter, "s", {good[0]: value}, {})
        for value in NO_NAMES:
            self.refused(BadConverter, ["steps"], Converter, "s", {good[0]: ("x", value)}, {})
        for value in NO_ANSWERS:
            self.refused(BadConverter, ["steps"], Converter, "s", {good[0]: (value, "s")}, {})
        keys = ["s", "sa", 5, None, ("s",), ("s", "a", "a"), ("s", "A"), ("s", "ab"), ("s", ""), ("", "a"),
                ("s", None), (True, "a"), ("abcdefghi", "a"), ("S", "a"), (("s", "a"), "a")]
        for key in keys:
            self.refused(BadConverter, ["steps"], Converter, "s", {key: good[1]}, {})
            self.refused(BadConverter, ["steps"], Converter, "s", {good[0]: good[1], key: good[1]}, {})
        self.refused(BadConverter, ["steps"], Converter, "s", {good[0]: ["x", "s"]}, {})
        self.refused(BadConverter, ["steps"], Converter, "s", {good[0]: ("x", "s", "s")}, {})

    def test_wrong_tails(self):
        for value in NO_DICTS:
            self.refused(BadConverter, ["tails"], Converter, "s", {}, value)
        for value in NO_ANSWERS:
            self.refused(BadConverter, ["tails"], Converter, "s", {}, {"s": "", "t": value})
        for name in ("", "abcdefghi", "S", 5, None, True, ("s",)):
            self.refused(BadConverter, ["tails"], Converter, "s", {}, {name: ""})

    def test_states(self):
        self.equal((len(WIDE), WIDE.states), (6, ("a", "b", "c", "d", "e", "f")))
        for start, steps, tails in (
                ("g", {}, {}), ("f", {("a", "a"): ("", "g")}, {}), ("f", {("g", "a"): ("", "a")}, {}),
                ("f", {}, {"g": ""})):
            self.refused(TooMany, ["states", 6], Converter, start, WIDE.steps | steps | {("f", "a"): ("", "a")},
                         WIDE.tails | tails)

    def test_letters(self):
        steps = {("s", letter): ("", "s") for letter in "abcd"}
        self.equal(Converter("s", steps, {}).letters, ("a", "b", "c", "d"))
        steps["s", "z"] = ("", "s")
        self.refused(TooMany, ["letters", 4], Converter, "s", steps, {})
        self.refused(TooMany, ["states", 6], Converter, "s", steps, {name: "" for name in "abcdef"})

    def test_answers_of_four_letters(self):
        self.equal(Converter("s", {("s", "a"): ("wxyz", "s")}, {"s": "abcd"})("aa"), "wxyzwxyzabcd")
        self.refused(BadConverter, ["steps"], Converter, "s", {("s", "a"): ("vwxyz", "s")}, {"s": "abcde"})
        self.refused(BadConverter, ["tails"], Converter, "s", {}, {"s": "abcde"})

    def test_arguments_stay_and_may_be_changed(self):
        steps, tails = {("s", "a"): ("a", "s")}, {"s": ""}
        converter = Converter("s", steps, tails)
        self.equal((steps, tails), ({("s", "a"): ("a", "s")}, {"s": ""}))
        steps["s", "a"], tails["s"] = ("b", "s"), "z"
        steps["t", "b"], tails["t"] = ("", "s"), ""
        self.equal((converter("a"), str(converter), converter.states), ("a", "@s s:a>a>s s$", ("s",)))


class Of(Checks):
    def test_rows(self):
        made = Converter.of("p", q={"a": ("", "p")}, p={"": "", "a": ("x", "q")})
        self.equal(made == ODD, True)
        self.equal(str(Converter.of(start="p")), "@p")
        self.equal((Converter.of("p", q={}).states, Converter.of("p", q={"": "z"}).states), (("p",), ("p", "q")))

    def test_wrong_starts(self):
        for value in NO_NAMES:
            self.refused(BadName, [value], Converter.of, value)
            self.refused(BadName, [value], Converter.of, value, p=5)

    def test_wrong_rows(self):
        for value in NO_DICTS:
            self.refused(BadConverter, ["q"], Converter.of, "p", q=value)
        for value in NO_GOALS:
            self.refused(BadConverter, ["q"], Converter.of, "p", q={"a": value})
        for value in NO_ANSWERS:
            self.refused(BadConverter, ["q"], Converter.of, "p", q={"": value})
            self.refused(BadConverter, ["q"], Converter.of, "p", q={"a": (value, "q")})
        for value in NO_NAMES:
            self.refused(BadConverter, ["q"], Converter.of, "p", q={"a": ("", value)})
        for key in ("A", "ab", 5, None, True, ("a",)):
            self.refused(BadConverter, ["q"], Converter.of, "p", q={key: ("", "q")})
        for pair in (("",), ("", "q", "q"), ["", "q"]):
            self.refused(BadConverter, ["q"], Converter.of, "p", q={"a": pair})
        for name in ("abcdefghi", "Q", "q1", ""):
            self.refused(BadConverter, [name], Converter.of, "p", **{name: {}})

    def test_the_least_wrong_name(self):
        rows = {"q": {}, "z": 5, "r": {"a": ("", "")}, "s": {"": "vwxyz"}}
        self.refused(BadConverter, ["r"], Converter.of, "p", **rows)
        self.refused(BadConverter, ["B"], Converter.of, "p", **rows, B={})

    def test_too_many(self):
        self.refused(TooMany, ["states", 6], Converter.of, "p", **{name: {"": ""} for name in "abcdef"})
        row = {letter: ("", "p") for letter in "abcde"}
        self.refused(TooMany, ["letters", 4], Converter.of, "p", p=row)

    def test_rows_stay_and_may_be_changed(self):
        row = {"a": ("x", "p"), "": ""}
        made = Converter.of("p", p=row)
        self.equal(row, {"a": ("x", "p"), "": ""})
        row.clear()
        self.equal(str(made), "@p p:a>x>p p$")


class Running(Checks):
    def test_answers(self):
        for text, answer in (("", ""), ("a", "a"), ("nn", "rnrn"), ("ana", "arna")):
            self.equal((LINES(text), LINES(text=text)), (answer, answer))
        self.equal([ODD("a" * n) for n in (0, 2, 4, 6)], ["", "x", "xx", "xxx"])
        self.equal(ODD.with_tail("q", "yy")("aaa"), "xxyy")

    def test_no_steps(self):
        self.refused(NoStep, [1, "s"], LINES, "axn")
        self.refused(NoStep, [0, "s"], LINES, "x")
        self.refused(NoStep, [3, "q"], ODD, "aaab")
        self.refused(NoStep, [400 - 1, "s"], LINES, "a" * 399 + "b")

    def test_no_tails(self):
        self.refused(NoTail, ["q"], ODD, "aaa")
        self.refused(NoTail, ["f"], WIDE, "")

    def test_no_texts(self):
        for value in ANYTHING:
            if not (isinstance(value, str) and all("a" <= sign <= "z" for sign in value)):
                self.refused(BadWord, [value], LINES, value)
                self.equal(LINES.takes(value), False)
        self.equal(len(LINES("n" * 400)), 800)
        self.refused(BadWord, ["n" * 401], LINES, "n" * 401)
        self.refused(BadWord, ["x" * 401], LINES, "x" * 401)
        self.equal((LINES.takes("n" * 400), LINES.takes("n" * 401)), (True, False))

    def test_takes(self):
        for text, taken in (("", True), ("na", True), ("nax", False), ("A", False)):
            self.equal((LINES.takes(text), LINES.takes(text=text)), (taken, taken))
        self.equal([ODD.takes("a" * n) for n in range(4)], [True, False, True, False])


class Asking(Checks):
    def test_steps(self):
        self.equal((LINES["s", "n"], LINES["s", "z"], ODD["q", "a"]), (("rn", "s"), None, ("", "p")))
        for key in ANYTHING:
            if not (isinstance(key, tuple) and len(key) == 2):
                self.refused(BadConverter, ["key"], lambda: LINES[key])
        self.refused(BadConverter, ["key"], lambda: LINES["s", "a", "a"])
        self.refused(BadConverter, ["key"], lambda: LINES["x":"y"])

    def test_steps_of_others(self):
        for value in [*ANYTHING, "t"]:
            self.refused(NoState, [value], lambda: LINES[value, "a"])
            self.refused(NoState, [value], lambda: LINES[value, 5])
        for value in NO_LETTERS:
            self.refused(BadLetter, [value], lambda: LINES["s", value])

    def test_tails(self):
        self.equal((LINES.tail("s"), ODD.tail("q"), WIDE.tail(state="e")), ("", None, "abcd"))
        for value in [*ANYTHING, "t"]:
            self.refused(NoState, [value], LINES.tail, value)

    def test_letters(self):
        self.equal(("n" in LINES, "a" in LINES, "r" in LINES, "s" in LINES, "an" in LINES), (True, True) + (False,) * 3)
        for value in ANYTHING:
            self.equal(value in LINES, value == "a" and isinstance(value, str))

    def test_size_and_states(self):
        self.equal((len(LINES), len(ODD), len(WIDE)), (1, 2, 6))
        self.equal((list(ODD), list(WIDE), sorted(WIDE)), (["p", "q"], list("abcdef"), list("abcdef")))
        self.equal(bool(Converter("s", {}, {})), True)


class Equality(Checks):
    def test_converters(self):
        again = Converter("p", {("q", "a"): ("", "p"), ("p", "a"): ("x", "q")}, {"p": ""})
        self.equal((ODD == again, ODD != again), (True, False))
        for other in (ODD.begun("q"), ODD.with_tail("q", ""), ODD.with_step("q", "a", "y", "p"),
                      ODD.without_tail("p"), ODD.with_step("q", "b", "", "p"), LINES):
            self.equal((ODD == other, ODD != other), (False, True))

    def test_nothing_else(self):
        for value in [*ANYTHING, TWICE, "@s s:a>a>s s:n>rn>s s$"]:
            if value is not LINES:
                self.equal((LINES == value, value == LINES), (False, False))


class Texts(Checks):
    def test_written(self):
        made = Converter("t", {("s", "n"): ("rn", "u"), ("s", "b"): ("", "s"), ("a", "z"): ("q", "t")}, {"u": "", "b": "xy"})
        self.equal(str(made), "@t a:z>q>t s:b>>s s:n>rn>u b$xy u$")

    def test_read_back(self):
        for converter in (LINES, ODD, WIDE, Converter("abcdefgh", {}, {}), LINES * 2, LINES.begun("t")):
            self.equal(Converter.read(str(converter)) == converter, True)
            self.equal(Converter.read(text=str(converter)) == converter, True)

    def test_no_strings(self):
        for value in ANYTHING:
            if not isinstance(value, str):
                self.refused(BadText, [0, 0], Converter.read, value)

    def test_words_that_cannot_stand(self):
        for text, word in (
                ("", 0), (" ", 0), ("@", 0), ("s", 0), ("@S", 0), ("@abcdefghi", 0), (" @s", 0), ("@s ", 1), ("@s  s$", 1),
                ("@@s", 0), ("@s @s", 1), ("@s s", 1), ("@s s:a>a", 1), ("@s s:a>>", 1), ("@s s:>>s", 1), ("@s :a>>s", 1),
                ("@s s:a>>s>s", 1), ("@s s:a>vwxyz>s", 1), ("@s s:ab>>s", 1), ("@s s:A>>s", 1), ("@s s$vwxyz", 1),
                ("xs", 0), ("ss s$", 0), ("@s $", 1), ("@s S$", 1), ("@s abcdefghi$", 1),
                ("@s s$$", 1), ("@s s$A", 1), ("@s s:a>>s\n", 1), ("@s s:a>>s s:a>>s", 2), ("@s s$ s$", 2),
                ("@s s:b>>s s:a>>s", 2), ("@s t:a>>s s:b>>s", 2), ("@s s$ s:a>>s", 2), ("@s t$ s$", 2),
                ("@s s:a>>s s$ s:b>>s x", 3), ("@s s:a>>s t$ s$", 3), ("@s s:a>-s", 1), ("@s s:a:>>s", 1),
                ("@s s:a>>s s:a>b>t", 2), ("@s s$a s$b", 2), ("@s s:a>$>s", 1), ("@s s:a>>abcdefghi", 1)):
            self.refused(BadText, [0, word], Converter.read, text)

    def test_order_of_names(self):
        text = "@s s:b>>s sa:a>>s t:a>>s s$ sa$"
        self.equal(str(Converter.read(text)), text)

    def test_too_many(self):
        steps = "a:a>>b c:a>>d e:a>>f"
        self.equal(len(Converter.read(f"@a {steps}")), 6)
        self.refused(TooMany, ["states", 6], Converter.read, f"@g {steps}")
        self.refused(TooMany, ["states", 6], Converter.read, f"@a {steps} g$")
        self.refused(BadText, [0, 5], Converter.read, f"@a {steps} g$ a$")
        letters = " ".join(f"s:{letter}>>s" for letter in "abcde")
        self.equal(Converter.read(f"@s {letters}"[:-7]).letters, ("a", "b", "c", "d"))
        self.refused(TooMany, ["letters", 4], Converter.read, f"@s {letters}")
        self.refused(TooMany, ["states", 6], Converter.read, f"@s {letters} t$ u$ v$ w$ x$ y$")
        self.refused(BadText, [0, 6], Converter.read, f"@s {letters} x")
