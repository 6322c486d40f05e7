"""headgap/joins.py: the functions; what the signs make is tested with Converter."""

from itertools import product

from headgap.converters import Converter
from headgap.errors import BadConverter, BadNumber, Taken, TooMany
from headgap.joins import beside, common, joined, repeated
from tests.checks import ANYTHING, LINES, NO_CONVERTERS, Checks

ODD = Converter.read("@p p:a>x>q q:a>>p p$")
BACK = Converter.read("@s s:a>a>s s:r>>t t:n>n>s s$")
PACKS = Converter.read("@s s:a>>t t:a>n>s t:r>>u s$ t$aa")
OTHERS = Converter.read("@m k:c>>m m:b>ab>k k$ m$c")
CONVERTERS = (LINES, ODD, BACK, PACKS, OTHERS, LINES * 2)


def circle(many, letter, answer=""):
    """A converter that goes round so many states by one letter."""
    names = "abcdef"[:many]
    return Converter("a", {(names[k], letter): (answer, names[(k + 1) % many]) for k in range(many)}, {"a": ""})


def outcome(work, *values):
    """What a call returns, as its str, or the error that it raises with its fields."""
    try:
        return str(work(*values))
    except (TooMany, Taken, BadNumber) as error:
        return type(error), vars(error)


class Joins(Checks):
    def test_as_the_signs(self):
        for one, other in product(CONVERTERS, repeat=2):
            self.equal(outcome(joined, one, other), outcome(lambda: one >> other))
            self.equal(outcome(beside, one, other), outcome(lambda: one | other))
            self.equal(outcome(common, one, other), outcome(lambda: one & other))
        for one, k in product(CONVERTERS, (0, 1, 2, 3, 4)):
            self.equal(outcome(repeated, one, k), outcome(lambda: one * k))
            self.equal(outcome(repeated, one, k), outcome(lambda: k * one))

    def test_what_they_make(self):
        self.equal(str(joined(LINES, BACK)), "@a a:a>a>a a:n>n>a a$")
        self.equal(str(joined(PACKS, ODD)), "@a a:a>>b b:r>>c a$ b$x")
        self.equal(str(beside(ODD, OTHERS)),
                   "@a a:a>x>b a:b>ab>c b:a>>a b:b>ab>d c:a>x>d c:c>>a d:a>>c d:c>>b a$c c$")
        self.equal(str(common(ODD, LINES)), "@a a:a>x>b b:a>>a a$")
        self.equal(str(repeated(PACKS, 2)), "@s s:a>>t t:a>nn>s t:r>>u s$ t$aaaa")
        self.equal(str(repeated(LINES, 0)), "@s s:a>>s s:n>>s s$")

    def test_by_name(self):
        self.equal(joined(other=BACK, one=LINES) == LINES >> BACK, True)
        self.equal(beside(other=OTHERS, one=LINES) == LINES | OTHERS, True)
        self.equal(common(other=ODD, one=LINES) == LINES & ODD, True)
        self.equal(repeated(k=2, converter=LINES) == LINES * 2, True)

    def test_too_many(self):
        self.equal((len(common(circle(2, "a"), circle(3, "a"))), len(beside(circle(2, "a"), circle(3, "b")))), (6, 6))
        self.equal(len(joined(circle(2, "a", "a"), circle(3, "a"))), 6)
        self.refused(TooMany, ["states", 6], joined, circle(4, "a", "a"), circle(3, "a"))
        self.refused(TooMany, ["states", 6], beside, circle(4, "a"), circle(2, "b"))
        self.refused(TooMany, ["states", 6], common, circle(4, "a"), circle(3, "a"))
        self.refused(TooMany, ["answer", 4], joined, LINES.narrowed("a") * 3, LINES.narrowed("a") * 2)
        self.refused(TooMany, ["answer", 4], beside, ODD.with_tail("p", "xxx"), OTHERS.with_tail("m", "yy"))
        three = Converter.of("s", s={letter: ("", "s") for letter in "bcd"} | {"": ""})
        self.equal(beside(LINES.narrowed("a"), three).letters, ("a", "b", "c", "d"))
        self.refused(TooMany, ["letters", 4], beside, LINES, three)
        self.refused(TooMany, ["answer", 4], repeated, LINES, 3)
        self.refused(Taken, ["n"], beside, LINES.narrowed("n"), LINES)

    def test_no_converters(self):
        for work in (joined, beside, common):
            for value in NO_CONVERTERS:
                self.refused(BadConverter, ["one"], work, value, LINES)
                self.refused(BadConverter, ["other"], work, LINES, value)
                self.refused(BadConverter, ["one"], work, value, value)
        for value in NO_CONVERTERS:
            self.refused(BadConverter, ["converter"], repeated, value, 1)
            self.refused(BadConverter, ["converter"], repeated, value, 5)

    def test_no_numbers(self):
        for value in [*ANYTHING, 5, -1]:
            if type(value) is not int or value not in range(5):
                self.refused(BadNumber, [value], repeated, LINES, value)
        self.refused(BadNumber, [5], repeated, LINES * 2, 5)

    def test_arguments_stay(self):
        one, other = Converter.read("@s s:a>a>s s:n>rn>s s$"), Converter.read("@s s:a>a>s s:r>>t t:n>n>s s$")
        for work, values in ((joined, (one, other)), (common, (one, other)), (beside, (one, other)),
                             (repeated, (one, 2)), (repeated, (one, 3)), (joined, (one, 5))):
            try:
                work(*values)
            except ValueError:
                pass
            self.equal((str(one), str(other)), ("@s s:a>a>s s:n>rn>s s$", "@s s:a>a>s s:r>>t t:n>n>s s$"))
