"""headgap/converters.py: the signs >>, |, & and *."""

from itertools import product

from headgap.converters import Converter
from headgap.errors import BadConverter, BadNumber, Taken, TooMany
from tests.checks import ANYTHING, LINES, NO_CONVERTERS, WITH_SIGNS, Checks

ODD = Converter.read("@p p:a>x>q q:a>>p p$")
BACK = Converter.read("@s s:a>a>s s:r>>t t:n>n>s s$")
PACKS = Converter.read("@s s:a>>t t:a>n>s t:r>>u s$ t$aa")
SWAP = Converter.read("@x x:a>r>y x:n>an>x y:a>a>x y:n>>z z:n>n>x x$ y$r")
ENDS = Converter.read("@s s:a>nn>s s:n>>t t:a>r>s s$na t$")
OTHERS = Converter.read("@m k:c>>m m:b>ab>k k$ m$c")
CONVERTERS = (LINES, ODD, BACK, PACKS, SWAP, ENDS)


def circle(many, letter, answer=""):
    """A converter that goes round so many states by one letter."""
    names = "abcdef"[:many]
    return Converter("a", {(names[k], letter): (answer, names[(k + 1) % many]) for k in range(many)}, {"a": ""})


def texts(letters, most):
    return ["".join(word) for n in range(most + 1) for word in product(letters, repeat=n)]


def answer_of(converter, text):
    """The answer by the words of the document, None without one."""
    if not converter.takes(text):
        return None
    return converter(text)


class Joined(Checks):
    def test_answers(self):
        tried = 0
        for one, other in product(CONVERTERS, repeat=2):
            try:
                joined = one >> other
            except TooMany:
                continue
            tried += 1
            for text in texts("anr", 5):
                middle = answer_of(one, text)
                self.equal(answer_of(joined, text), None if middle is None else answer_of(other, middle))
        self.assertGreater(tried, 25)

    def test_names_in_order(self):
        one = Converter.read("@z x:a>b>z y:a>a>x y:b>>y z:a>a>y z:b>b>x x$")
        other = Converter.read("@p p:a>x>q p:b>y>p q:a>>q q:b>zz>p p$u q$v")
        self.equal(str(one >> other), "@a a:a>x>b a:b>y>c b:a>>d b:b>>b c:a>y>a d:a>zz>a c$u d$v")

    def test_steps_and_tails_that_lack(self):
        one = Converter.read("@s s:a>aa>s s:b>ax>s s:c>>s s:d>>t s$ax t$aa")
        other = Converter.read("@p p:a>n>q q:a>m>p p$e")
        self.equal(str(one >> other), "@a a:a>nm>a a:c>>a a:d>>b b$nme")
        self.equal(str(one.with_tail("t", "a") >> other), "@a a:a>nm>a a:c>>a a:d>>b")
        self.equal(str(one.without_tail("t") >> other), "@a a:a>nm>a a:c>>a a:d>>b")

    def test_too_many_states(self):
        self.equal(len(circle(2, "a", "a") >> circle(3, "a")), 6)
        self.refused(TooMany, ["states", 6], lambda: circle(3, "a", "a") >> circle(4, "a"))
        self.refused(TooMany, ["states", 6], lambda: circle(3, "a", "a") >> circle(4, "a", "abc").with_tail("b", "xxxx"))
        self.refused(TooMany, ["states", 6], lambda: circle(4, "a", "aa") >> circle(3, "a", "bbb"))

    def test_useless_pairs_count(self):
        self.refused(TooMany, ["states", 6], lambda: circle(3, "a", "a").without_tail("a") >> circle(4, "a"))

    def test_too_long_answers(self):
        four = Converter.read("@s s:a>xx>s s$xx")
        self.equal(str(Converter.read("@s s:a>aa>s s$a") >> four), "@a a:a>xxxx>a a$xxxx")
        self.refused(TooMany, ["answer", 4], lambda: Converter.read("@s s:a>aaa>s s$") >> four)
        self.refused(TooMany, ["answer", 4], lambda: Converter.read("@s s:a>>s s$aa") >> four)
        self.refused(TooMany, ["answer", 4], lambda: Converter.read("@s s:b>>t t:a>aaa>t s$") >> four)


class Beside(Checks):
    def test_answers(self):
        for one in (LINES, ODD, PACKS, SWAP):
            both, turned = one | OTHERS, OTHERS | one
            self.equal((both.letters, turned.letters), (tuple(sorted(one.letters + OTHERS.letters)),) * 2)
            for text in texts("".join(both.letters), 4):
                parts = ["".join(sign for sign in text if sign in held.letters) for held in (one, OTHERS)]
                taken = one.takes(parts[0]) and OTHERS.takes(parts[1])
                self.equal((both.takes(text), turned.takes(text)), (taken, taken))
                if taken:
                    steps, tails = self.told(one, text), (self.tail(one, text), self.tail(OTHERS, text))
                    self.equal((both(text), turned(text)), (steps + "".join(tails), steps + "".join(tails[::-1])))

    def told(self, one, text):
        """What the steps of both write, each at its own letters."""
        places, written = {"one": one.start, "other": OTHERS.start}, ""
        for letter in text:
            name, held = ("one", one) if letter in one.letters else ("other", OTHERS)
            answer, places[name] = held.steps[places[name], letter]
            written += answer
        return written

    def tail(self, held, text):
        state = held.start
        for letter in text:
            if letter in held.letters:
                state = held.steps[state, letter][1]
        return held.tails[state]

    def test_names_in_order(self):
        self.equal(str(circle(2, "n", "x") | circle(2, "c", "y")),
                   "@a a:c>y>b a:n>x>c b:c>y>a b:n>x>d c:c>y>d c:n>x>a d:c>y>c d:n>x>b a$")

    def test_letters_that_both_have(self):
        self.refused(Taken, ["a"], lambda: LINES | LINES)
        self.refused(Taken, ["n"], lambda: LINES.narrowed("n") | LINES)
        self.refused(Taken, ["b"], lambda: circle(6, "b", "aa").with_step("a", "c", "", "a")
                     | circle(6, "c").with_step("a", "b", "", "a"))
        self.equal(str(LINES | Converter("x", {}, {"x": "z"})), "@a a:a>a>a a:n>rn>a a$z")

    def test_too_many(self):
        self.equal(len(circle(3, "a") | circle(2, "b")), 6)
        self.refused(TooMany, ["states", 6], lambda: circle(3, "a") | circle(3, "b"))
        self.refused(TooMany, ["states", 6], lambda: circle(6, "a").with_tail("a", "xxx") | circle(2, "b").with_tail("a", "yyy"))
        self.refused(TooMany, ["answer", 4], lambda: LINES.with_tail("s", "xxx") | circle(1, "b").with_tail("a", "yy"))
        self.equal((LINES.with_tail("s", "xxx") | circle(1, "b").with_tail("a", "y")).tail("a"), "xxxy")
        three = Converter.of("s", s={letter: ("", "s") for letter in "cde"} | {"": "xxx"})
        self.refused(TooMany, ["letters", 4], lambda: LINES | three)
        self.refused(TooMany, ["answer", 4], lambda: LINES.with_tail("s", "xx") | three)
        self.equal((LINES | three.narrowed("c", "e")).letters, ("a", "c", "e", "n"))


class Common(Checks):
    def test_answers(self):
        for one, other in product(CONVERTERS, repeat=2):
            common = one & other
            for text in texts("anr", 5):
                self.equal(answer_of(common, text), answer_of(one, text) if other.takes(text) else None)

    def test_names_in_order(self):
        one = Converter.read("@z y:a>>y y:b>w>z z:a>x>z z:b>y>y y$q z$p")
        self.equal(str(one & circle(2, "a").with_step("b", "b", "u", "a").with_tail("b", "long")),
                   "@a a:a>x>b b:a>x>a b:b>y>c c:a>>d d:a>>c d:b>w>a a$p b$p c$q d$q")

    def test_too_many_states(self):
        self.equal(len(circle(2, "a") & circle(3, "a")), 6)
        self.refused(TooMany, ["states", 6], lambda: circle(3, "a") & circle(4, "a"))
        self.equal(len(circle(6, "a") & circle(3, "a")), 6)


class Repeated(Checks):
    def test_answers(self):
        for one in (LINES, ODD, BACK):
            for k in (0, 1, 2):
                self.equal((one * k == k * one, (one * k).states, (one * k).start), (True, one.states, one.start))
                for text in texts("an", 4):
                    if one.takes(text):
                        parts = [one.steps[at][0] for at in self.walk(one, text)] + [one.tails[self.end(one, text)]]
                        self.equal((one * k)(text), "".join(part * k for part in parts))
        self.equal(str(ODD * 4), "@p p:a>xxxx>q q:a>>p p$")

    def walk(self, one, text):
        keys, state = [], one.start
        for letter in text:
            keys.append((state, letter))
            state = one.steps[state, letter][1]
        return keys

    def end(self, one, text):
        state = one.start
        for letter in text:
            state = one.steps[state, letter][1]
        return state

    def test_too_long_answers(self):
        self.refused(TooMany, ["answer", 4], lambda: LINES * 3)
        self.refused(TooMany, ["answer", 4], lambda: 3 * LINES)
        self.refused(TooMany, ["answer", 4], lambda: circle(1, "a").with_tail("a", "xx") * 3)
        self.equal((circle(1, "a").with_tail("a", "xx") * 2).tail("a"), "xxxx")

    def test_no_numbers(self):
        for value in [*ANYTHING, 5, -1]:
            if type(value) is not int or value not in (0, 1):
                self.refused(BadNumber, [value], lambda: LINES * value)
                if not isinstance(value, WITH_SIGNS):
                    self.refused(BadNumber, [value], lambda: value * LINES)


class Refused(Checks):
    def test_no_converters_on_the_right(self):
        for value in NO_CONVERTERS:
            self.refused(BadConverter, ["other"], lambda: LINES >> value)
            self.refused(BadConverter, ["other"], lambda: LINES | value)
            self.refused(BadConverter, ["other"], lambda: LINES & value)

    def test_in_place(self):
        for change, value, told in ((">>=", BACK, LINES >> BACK), ("|=", OTHERS, LINES | OTHERS),
                                    ("&=", ODD, LINES & ODD), ("*=", 2, LINES * 2)):
            names = {"held": LINES, "value": value}
            exec(f"held {change} value", names)
            self.equal((names["held"] == told, str(LINES)), (True, "@s s:a>a>s s:n>rn>s s$"))

    def test_a_refused_sign_changes_nothing(self):
        names = {"held": LINES}
        for code in ("held |= held", "held *= 3", "held >>= 5", "held &= None"):
            with self.assertRaises(ValueError):
                exec(code, names)
            self.assertIs(names["held"], LINES)
        self.equal(str(LINES), "@s s:a>a>s s:n>rn>s s$")
