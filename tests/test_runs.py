"""headgap/runs.py: runs, heights, useful states, taken texts."""

import time
from itertools import islice

from headgap.converters import Converter
from headgap.errors import BadConverter, BadNumber, BadWord, NoStep
from headgap.runs import climbs, least_text, run, texts, useful
from tests.checks import ANYTHING, LINES, NO_CONVERTERS, NO_TEXTS, Checks
from tests.plain_ways import first_text, some_converters, taken, useful_states, walk, words

PACKS = Converter.read("@s s:a>>t t:a>b>s t:c>>u s$ t$aa")
NO_TAIL = Converter.read("@s s:a>a>s s:b>>t t:b>>s")
ONLY_EMPTY = Converter.read("@s s:a>a>t t:a>a>t s$zz")
FINITE = Converter.read("@s s:a>a>t s:b>>u t:a>bb>u u:b>b>v s$ u$x v$")
APART = Converter.read("@s s:a>a>t t:b>b>s x:a>>t x:c>>y y:a>>s t$ y$")
BARE = Converter("s", {}, {})
# Behind the first letter only as many letters as the rest allows can be read: the way over t is a dead end at even n.
PARITY = Converter.read("@s s:a>>t s:b>>u t:a>>v t:c>>v u:b>>w v:a>>t v:c>>t w:b>>u t$ w$")
SOME = some_converters(250)


class Run(Checks):
    def test_states(self):
        self.equal(run(PACKS, ""), ("s",))
        self.equal(run(PACKS, "ac"), ("s", "t", "u"))
        for converter in SOME[:80]:
            for n in range(5):
                for word in words(converter.letters, n):
                    states = walk(converter, word)
                    if states is not None:
                        self.equal(run(converter, word), tuple(states))

    def test_heights(self):
        self.equal(climbs(PACKS, ""), (0,))
        self.equal(climbs(LINES, "nan"), (0, 1, 1, 2))
        self.equal(climbs(ONLY_EMPTY, "aa"), (0, 0, 0))
        for converter in SOME[:80]:
            for n in range(5):
                for word in words(converter.letters, n):
                    states = walk(converter, word)
                    if states is not None:
                        heights = [0]
                        for state, letter in zip(states, word):
                            heights.append(heights[-1] + len(converter.steps[state, letter][0]) - 1)
                        self.equal(climbs(converter, word), tuple(heights))

    def test_no_tail_is_asked(self):
        self.equal((run(NO_TAIL, "aba"[:2]), climbs(NO_TAIL, "ab")), (("s", "s", "t"), (0, 0, -1)))

    def test_long_texts(self):
        self.equal((run(LINES, "n" * 400), climbs(LINES, "n" * 400)), (("s",) * 401, tuple(range(401))))
        for work in (run, climbs):
            self.refused(BadWord, ["n" * 401], work, LINES, "n" * 401)

    def test_letters_without_steps(self):
        for work in (run, climbs):
            self.refused(NoStep, [0, "s"], work, PACKS, "x")
            self.refused(NoStep, [1, "t"], work, PACKS, "ab")
            self.refused(NoStep, [2, "u"], work, PACKS, "acaa")
            self.refused(NoStep, [399, "s"], work, LINES, "a" * 399 + "x")

    def test_by_name(self):
        self.equal(run(text="a", converter=LINES), ("s", "s"))
        self.equal(climbs(text="n", converter=LINES), (0, 1))

    def test_wrong_values(self):
        for work in (run, climbs):
            for value in NO_CONVERTERS:
                self.refused(BadConverter, ["converter"], work, value, "a")
                self.refused(BadConverter, ["converter"], work, value, 5)
            for value in NO_TEXTS:
                self.refused(BadWord, [value], work, LINES, value)
                self.refused(BadWord, [value], work, BARE, value)


class Useful(Checks):
    def test_some(self):
        self.equal(useful(LINES), ("s",))
        self.equal(useful(PACKS), ("s", "t"))
        self.equal((useful(NO_TAIL), useful(BARE)), ((), ()))
        self.equal(useful(ONLY_EMPTY), ("s",))
        self.equal(useful(FINITE), ("s", "t", "u", "v"))
        self.equal(useful(APART), ("s", "t"))
        self.equal(useful(Converter("s", {}, {"t": ""})), ())

    def test_by_the_definition(self):
        for converter in SOME:
            self.equal(useful(converter), useful_states(converter))
        for converter in some_converters(40, 6, 2, 3):
            self.equal(useful(converter), useful_states(converter))

    def test_six_states_in_a_row(self):
        steps = {("abcdef"[k], "z"): ("", "abcdef"[k + 1]) for k in range(5)}
        self.equal(useful(Converter("a", steps, {"f": ""})), ("a", "b", "c", "d", "e", "f"))
        self.equal(useful(Converter("a", steps, {"e": ""})), ("a", "b", "c", "d", "e"))
        self.equal(useful(Converter("b", steps, {"f": ""})), ("b", "c", "d", "e", "f"))
        self.equal(least_text(Converter("a", steps, {"f": ""})), "zzzzz")

    def test_wrong_values(self):
        for value in NO_CONVERTERS:
            self.refused(BadConverter, ["converter"], useful, value)
            self.refused(BadConverter, ["converter"], least_text, value)
        self.equal((useful(converter=LINES), least_text(converter=LINES)), (("s",), ""))


class Texts(Checks):
    def test_by_the_definition(self):
        for converter in SOME:
            for n in range(6):
                self.equal(list(texts(converter, n)), taken(converter, n))

    def test_few(self):
        self.equal(list(texts(LINES, 1)), ["a", "n"])
        self.equal([list(texts(ONLY_EMPTY, n)) for n in (0, 1, 400)], [[""], [], []])
        self.equal([list(texts(NO_TAIL, n)) for n in (0, 1, 2, 400)], [[]] * 4)
        self.equal([list(texts(BARE, n)) for n in (0, 1, 400)], [[]] * 3)
        self.equal([list(texts(FINITE, n)) for n in range(5)], [[""], ["b"], ["aa", "bb"], ["aab"], []])

    def test_letters_of_which_each_can_be_the_next(self):
        four = Converter.of("s", s={letter: ("", "s") for letter in "azbm"} | {"": ""})
        self.equal(list(texts(four, 1)), ["a", "b", "m", "z"])
        self.equal(list(texts(four, 4)), words("abmz", 4))

    def test_the_first_of_very_many(self):
        begun = time.perf_counter()
        self.equal(list(islice(texts(LINES, 400), 3)), ["a" * 400, "a" * 399 + "n", "a" * 398 + "na"])
        many = texts(PARITY, 399)
        self.equal(list(islice(many, 2)), ["a" * 399, "a" * 398 + "c"])
        self.equal(next(many), "a" * 397 + "ca")
        self.assertLess(time.perf_counter() - begun, 1)

    def test_beginnings_that_cannot_be_ended(self):
        begun = time.perf_counter()
        self.equal(list(texts(PARITY, 400)), ["b" * 400])
        self.equal(list(texts(PARITY, 6)), ["bbbbbb"])
        # Of 400 letters the first 399 can be any, but no tail lies behind the right number of them.
        late = Converter.read("@s s:a>>t s:b>>t t:a>>s t:b>>s t$")
        self.equal(list(texts(late, 400)), [])
        ends = Converter.read("@s s:a>>s s:b>>s s:c>>t t:a>>t t:b>>t t:c>>u u:a>>u u:b>>u u:c>>v v$")
        self.equal(list(islice(texts(ends, 400), 2)), ["a" * 397 + "ccc", "a" * 396 + "bccc"])
        self.assertLess(time.perf_counter() - begun, 1)

    def test_each_when_it_is_requested(self):
        begun = time.perf_counter()
        for n in range(300, 401):
            self.equal(next(texts(LINES, n)), "a" * n)
        self.assertLess(time.perf_counter() - begun, 2)

    def test_lengths(self):
        self.equal(list(texts(LINES, 0)), [""])
        self.refused_first(BadNumber, [401], [lambda: texts(LINES, 401)])
        self.equal(next(texts(n=400, converter=LINES)), "a" * 400)

    def test_wrong_values(self):
        for value in NO_CONVERTERS:
            self.refused_first(BadConverter, ["converter"], [lambda: texts(value, 1), lambda: texts(value, -1)])
        for value in [*ANYTHING, -1, 401, 10 ** 40]:
            if type(value) is not int or value not in (0, 1, 5):
                self.refused_first(BadNumber, [value], [lambda: texts(LINES, value), lambda: texts(BARE, value)])

    def test_two_at_once(self):
        one, other = texts(LINES, 2), texts(LINES, 2)
        self.equal([next(one), next(one), next(other), next(one), next(other)], ["aa", "an", "aa", "na", "an"])

    def test_arguments_stay(self):
        told = [str(converter) for converter in SOME]
        for converter in SOME:
            list(texts(converter, 3))
            useful(converter)
            least_text(converter)
        self.equal([str(converter) for converter in SOME], told)


class LeastText(Checks):
    def test_by_the_definition(self):
        for converter in [*SOME, *some_converters(200, 6, 2, 5)]:
            self.equal(least_text(converter), first_text(converter))

    def test_some(self):
        self.equal((least_text(NO_TAIL), least_text(BARE), least_text(ONLY_EMPTY)), (None, None, ""))
        self.equal(least_text(FINITE.without_tail("s")), "b")
        self.equal(least_text(Converter.read("@s s:a>>t s:b>>u t:z>>v u:a>>v v$")), "az")
        self.equal(least_text(Converter.read("@s s:a>>t s:b>>u t:z>>v u:a>>v v:a>>w u$")), "b")
