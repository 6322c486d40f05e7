"""headgap/converters.py: converters that are made of another one by a change."""

from headgap.converters import Converter
from headgap.errors import BadAnswer, BadLetter, BadName, NoState, Nothing, Taken, TooMany
from tests.checks import ANYTHING, LINES, Checks

ODD = Converter.read("@p p:a>x>q q:a>>p p$")
FULL = Converter.read("@f a:b>wxyz>b b:c>>c c:d>>d d:a>>e e$abcd")
NO_NAMES = [value for value in ANYTHING if value not in ("a", "abcdefgh")]
NO_LETTERS = [value for value in ANYTHING if value != "a"]
NO_ANSWERS = [value for value in ANYTHING if value not in ("", "a")] + ["abcde"]
STRANGERS = [*ANYTHING, "z"]


class WithAndWithout(Checks):
    def test_with_step(self):
        self.equal(str(ODD.with_step("q", "b", "yy", "p")), "@p p:a>x>q q:a>>p q:b>yy>p p$")
        self.equal(str(ODD.with_step("q", "a", "wxyz", "r")), "@p p:a>x>q q:a>wxyz>r p$")
        self.equal(str(LINES.with_step(to="t", answer="", letter="b", state="u")), "@s s:a>a>s s:n>rn>s u:b>>t s$")
        self.equal(str(ODD.with_step("p", "a", "", "p").without_step("q", "a")), "@p p:a>>p p$")

    def test_with_step_refused(self):
        for value in NO_NAMES:
            self.refused(BadName, [value], ODD.with_step, value, "a", "", "p")
            self.refused(BadName, [value], ODD.with_step, value, 5, 5, 5)
            self.refused(BadName, [value], ODD.with_step, "p", "a", "", value)
        for value in NO_LETTERS:
            self.refused(BadLetter, [value], ODD.with_step, "p", value, "", "p")
            self.refused(BadLetter, [value], ODD.with_step, "p", value, 5, 5)
        for value in NO_ANSWERS:
            self.refused(BadAnswer, [value], ODD.with_step, "p", "a", value, "p")
            self.refused(BadAnswer, [value], ODD.with_step, "p", "a", value, 5)
        self.refused(TooMany, ["states", 6], FULL.with_step, "f", "a", "", "g")
        self.refused(TooMany, ["states", 6], FULL.with_step, "g", "z", "", "f")
        self.refused(TooMany, ["letters", 4], FULL.with_step, "f", "z", "", "f")
        self.refused(BadAnswer, ["vwxyz"], FULL.with_step, "g", "z", "vwxyz", "f")

    def test_with_tail(self):
        self.equal(str(ODD.with_tail("q", "")), "@p p:a>x>q q:a>>p p$ q$")
        self.equal(str(ODD.with_tail(answer="abcd", state="p")), "@p p:a>x>q q:a>>p p$abcd")
        self.equal(str(ODD.with_tail("r", "z")), "@p p:a>x>q q:a>>p p$ r$z")

    def test_with_tail_refused(self):
        for value in NO_NAMES:
            self.refused(BadName, [value], ODD.with_tail, value, "")
            self.refused(BadName, [value], ODD.with_tail, value, 5)
        for value in NO_ANSWERS:
            self.refused(BadAnswer, [value], ODD.with_tail, "p", value)
        self.refused(TooMany, ["states", 6], FULL.with_tail, "g", "")
        self.refused(BadAnswer, ["abcde"], FULL.with_tail, "g", "abcde")

    def test_without_step(self):
        self.equal(str(ODD.without_step("q", "a")), "@p p:a>x>q p$")
        self.equal(ODD.without_step("p", "a").states, ("p", "q"))
        gone = ODD.without_step(letter="a", state="q").without_step("p", "a")
        self.equal((gone.states, gone.letters), (("p",), ()))
        self.refused(NoState, ["q"], gone.without_step, "q", "a")

    def test_without_step_refused(self):
        for value in STRANGERS:
            self.refused(NoState, [value], ODD.without_step, value, "a")
            self.refused(NoState, [value], ODD.without_step, value, 5)
        for value in NO_LETTERS:
            self.refused(BadLetter, [value], ODD.without_step, "p", value)
        self.refused(Nothing, [], ODD.without_step, "p", "b")
        self.refused(Nothing, [], FULL.without_step, "f", "a")

    def test_without_tail(self):
        self.equal(str(ODD.without_tail("p")), "@p p:a>x>q q:a>>p")
        self.equal(FULL.with_step("d", "a", "", "d").without_tail(state="e").states, ("a", "b", "c", "d", "f"))

    def test_without_tail_refused(self):
        for value in STRANGERS:
            self.refused(NoState, [value], ODD.without_tail, value)
        self.refused(Nothing, [], ODD.without_tail, "q")


class OtherNames(Checks):
    def test_begun(self):
        self.equal(str(ODD.begun("q")), "@q p:a>x>q q:a>>p p$")
        self.equal(str(LINES.begun(state="other")), "@other s:a>a>s s:n>rn>s s$")
        self.equal(FULL.begun("g").states, ("a", "b", "c", "d", "e", "g"))
        self.equal(FULL.begun("a").states, ("a", "b", "c", "d", "e"))

    def test_begun_refused(self):
        for value in NO_NAMES:
            self.refused(BadName, [value], ODD.begun, value)
        self.refused(TooMany, ["states", 6], FULL.with_tail("f", "").begun, "g")

    def test_renamed(self):
        self.equal(str(ODD.renamed("q", "abcdefgh")), "@p abcdefgh:a>>p p:a>x>abcdefgh p$")
        self.equal(str(ODD.renamed("p", "z")), "@z q:a>>z z:a>x>q z$")
        self.equal(str(LINES.renamed(new="t", old="s")), "@t t:a>a>t t:n>rn>t t$")
        self.equal((ODD.renamed("q", "q") == ODD, len(FULL.renamed("f", "g"))), (True, 6))
        self.equal((FULL.renamed("e", "g").tail("g"), FULL.renamed("e", "g").states), ("abcd", tuple("abcdfg")))

    def test_renamed_refused(self):
        for value in STRANGERS:
            self.refused(NoState, [value], ODD.renamed, value, "r")
            self.refused(NoState, [value], ODD.renamed, value, 5)
        for value in NO_NAMES:
            self.refused(BadName, [value], ODD.renamed, "p", value)
        self.refused(Taken, ["q"], ODD.renamed, "p", "q")
        self.refused(Taken, ["p"], ODD.renamed, "q", "p")

    def test_narrowed(self):
        self.equal(str(LINES.narrowed("n")), "@s s:n>rn>s s$")
        self.equal((LINES.narrowed("a", "n", "a") == LINES, LINES.narrowed("z", "n") == LINES.narrowed("n")), (True, True))
        self.equal((str(LINES.narrowed()), str(ODD.narrowed("b"))), ("@s s$", "@p p$"))
        self.equal(FULL.narrowed("b", "d").states, ("a", "b", "c", "d", "e", "f"))
        self.equal(FULL.narrowed("b").states, ("a", "b", "e", "f"))

    def test_narrowed_refused(self):
        for value in NO_LETTERS:
            self.refused(BadLetter, [value], LINES.narrowed, value)
            self.refused(BadLetter, [value], LINES.narrowed, "a", "z", value, 5)


class NothingElse(Checks):
    def test_the_converter_stays(self):
        before, parts = str(ODD), (ODD.start, ODD.states, ODD.letters, dict(ODD.steps), dict(ODD.tails))
        for work in (lambda: ODD.with_step("q", "b", "yy", "z"), lambda: ODD.with_tail("q", ""),
                     lambda: ODD.without_step("q", "a"), lambda: ODD.without_tail("p"), lambda: ODD.begun("q"),
                     lambda: ODD.renamed("p", "z"), lambda: ODD.narrowed("b"), lambda: ODD * 2, lambda: ODD & ODD,
                     lambda: ODD("aa"), lambda: ODD.takes("aa"), lambda: ODD["p", "a"]):
            work()
            self.equal(str(ODD), before)
        for work in (lambda: ODD.with_step("q", "b", "yy", 5), lambda: ODD.with_tail("q", None), lambda: ODD("a"),
                     lambda: ODD.without_step("q", "b"), lambda: ODD.begun(""), lambda: ODD.renamed("p", "q"),
                     lambda: ODD.narrowed("bb"), lambda: ODD * 5, lambda: ODD | ODD, lambda: ODD >> 5):
            with self.assertRaises(ValueError):
                work()
            self.equal((ODD.start, ODD.states, ODD.letters, ODD.steps, ODD.tails), parts)
