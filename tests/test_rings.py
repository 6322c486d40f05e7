"""headgap/rings.py: rings, their means, the greatest one, and what shows it."""

import time
from fractions import Fraction
from itertools import islice

from headgap.converters import Converter
from headgap.errors import BadConverter, BadPaper
from headgap.rates import Rate
from headgap.rings import Mean, Ring, greatest_mean, ring_rate, rings, shows_mean
from tests.checks import ANYTHING, LINES, NO_CONVERTERS, TWICE, Checks
from tests.plain_ways import rings_of, round_of, simple_rings, some_converters, useful_states, words, written

PACKS = Converter.read("@s s:a>>t t:a>b>s t:c>>u s$ t$aa")
FINITE = Converter.read("@s s:a>a>t s:b>>u t:a>bb>u u:b>b>v s$ u$x v$")
NO_TAIL = Converter.read("@s s:a>a>s s:b>>t t:b>>s")
ONLY_EMPTY = Converter.read("@s s:a>a>t t:a>aaaa>t s$zz")
# The ring of u is as good as it can be, but no tail lies behind it; x is not come to.
TRAP = Converter.read("@s s:a>xx>t t:a>>s t:b>y>s t:c>>u u:a>wwww>u x:a>wwww>x s$ x$")
# Six states, all of them useful, with 289 simple rings.
SIX = Converter.read(
    "@a a:a>w>f a:b>>d a:x>w>c a:z>www>d b:a>wwww>c b:b>www>f b:x>wwww>c b:z>wwww>f c:a>wwww>e c:b>wwww>e c:x>>a "
    "c:z>wwww>a d:a>www>e d:b>wwww>e d:x>www>b d:z>w>b e:a>www>a e:b>ww>b e:x>>d e:z>wwww>b f:a>wwww>e f:b>w>a "
    "f:x>www>c f:z>w>a a$")
CYCLE = Converter("f", {("abcdef"[k], "q"): ("y" * (k % 2), "abcdef"[(k + 1) % 6]) for k in range(6)}, {"c": ""})
SOME = some_converters(250) + some_converters(30, 5, 2, 8)


def told(converter):
    return [(ring.state, ring.text) for ring in rings(converter)]


def mean(converter, state, text):
    return Fraction(written(converter, state, text), len(text))


class Rings(Checks):
    def test_by_the_definition(self):
        for converter in [*SOME, PACKS, FINITE, TRAP, CYCLE]:
            self.equal(told(converter), simple_rings(converter))

    def test_few(self):
        self.equal(told(LINES), [("s", "a"), ("s", "n")])
        self.equal(told(PACKS), [("s", "aa")])
        self.equal(told(TRAP), [("s", "aa"), ("s", "ab")])
        self.equal([told(converter) for converter in (FINITE, NO_TAIL, ONLY_EMPTY, Converter("s", {}, {"s": ""}))],
                   [[], [], [], []])
        self.equal(told(CYCLE), [("a", "qqqqqq")])

    def test_all_states_and_letters(self):
        found = told(SIX)
        self.equal(found, simple_rings(SIX, SIX.states))
        self.equal((len(found), max(len(text) for _, text in found)), (289, 6))

    def test_several_letters_between_the_same_states(self):
        both = Converter.read("@s s:a>>t s:b>x>t t:a>>s t:c>yy>s s$")
        self.equal(told(both), [("s", "aa"), ("s", "ac"), ("s", "ba"), ("s", "bc")])
        four = Converter.of("v", v={letter: ("", "v") for letter in "dcba"} | {"": ""})
        self.equal(told(four), [("v", "a"), ("v", "b"), ("v", "c"), ("v", "d")])

    def test_the_least_state_tells(self):
        turned = Converter.read("@z b:a>>z b:c>>b z:a>>b z:c>>z z$")
        self.equal(told(turned), [("b", "aa"), ("b", "c"), ("z", "c")])

    def test_they_are_rings(self):
        self.assertTrue(all(isinstance(ring, Ring) for ring in rings(LINES)))
        self.equal(list(rings(LINES)) == [Ring("s", "a"), Ring("s", "n")], True)
        self.equal(next(rings(converter=LINES)) == Ring("s", "a"), True)

    def test_no_converters(self):
        for value in NO_CONVERTERS:
            self.refused_first(BadConverter, ["converter"], [lambda: rings(value)])
            self.refused(BadConverter, ["converter"], ring_rate, value, Ring("s", "n"))
            self.refused(BadConverter, ["converter"], ring_rate, value, None)
            self.refused(BadConverter, ["converter"], greatest_mean, value)
            self.refused(BadConverter, ["converter"], shows_mean, value, None)
            self.refused(BadConverter, ["converter"], shows_mean, value, value)


class RingRate(Checks):
    def check(self, rate, held):
        self.assertIs(type(rate), Rate)
        self.equal((rate.upper, rate.lower), (held.numerator, held.denominator))

    def test_by_the_definition(self):
        for converter in SOME:
            useful = useful_states(converter)
            for state in converter.states:
                for n in range(5):
                    for text in words(converter.letters, n):
                        if round_of(converter, useful, state, text):
                            self.check(ring_rate(converter, Ring(state, text)), mean(converter, state, text))
                        else:
                            self.refused(BadPaper, ["ring"], ring_rate, converter, Ring(state, text))

    def test_gone_round_twice(self):
        self.check(ring_rate(LINES, Ring("s", "an")), Fraction(3, 2))
        self.check(ring_rate(LINES, Ring("s", "ananan")), Fraction(3, 2))
        self.check(ring_rate(PACKS, Ring("t", "aaaa")), Fraction(1, 2))
        self.check(ring_rate(CYCLE, Ring("d", "q" * 12)), Fraction(1, 2))

    def test_long_ones(self):
        self.check(ring_rate(LINES, Ring("s", "n" * 399 + "a")), Fraction(799, 400))
        self.refused(BadPaper, ["ring"], ring_rate, LINES, Ring("s", "n" * 401))

    def test_not_along_useful_steps(self):
        for ring in (Ring("u", "a"), Ring("x", "a"), Ring("t", "ca"), Ring("s", "a"), Ring("q", "a"), Ring("s", "")):
            self.refused(BadPaper, ["ring"], ring_rate, TRAP, ring)
        self.refused(BadPaper, ["ring"], ring_rate, NO_TAIL, Ring("s", "a"))
        self.refused(BadPaper, ["ring"], ring_rate, ONLY_EMPTY, Ring("t", "a"))

    def test_no_rings(self):
        for value in [*ANYTHING, ("s", "n"), ["s", "n"], {"state": "s", "text": "n"}, greatest_mean(LINES)]:
            if not isinstance(value, Ring):
                self.refused(BadPaper, ["ring"], ring_rate, LINES, value)
            if value != "a":
                self.refused(BadPaper, ["ring"], ring_rate, LINES, Ring("s", value))
            self.refused(BadPaper, ["ring"], ring_rate, LINES, Ring(value, "n"))
        self.equal(str(ring_rate(ring=Ring("s", "n"), converter=LINES)), "2")


class GreatestMean(Checks):
    def test_by_the_definition(self):
        none = 0
        for converter in SOME:
            means = [mean(converter, *ring) for ring in simple_rings(converter)]
            found = greatest_mean(converter)
            self.equal(found is None, not means)
            none += found is None
            if means:
                self.equal((found.rate.upper, found.rate.lower), (max(means).numerator, max(means).denominator))
                self.equal(mean(converter, found.ring.state, found.ring.text), max(means))
                self.equal(tuple(sorted(found.heights)), useful_states(converter))
                self.assertTrue(all(type(height) is int for height in found.heights.values()))
                self.holds(converter, found)
            self.equal(shows_mean(converter, found), True)
        self.assertTrue(50 < none < 230)

    def holds(self, converter, found):
        """The heights grow along each useful step by what is told."""
        for (state, letter), (answer, to) in converter.steps.items():
            if state in found.heights and to in found.heights:
                gain = found.rate.lower * len(answer) - found.rate.upper
                self.assertGreaterEqual(found.heights[to], found.heights[state] + gain)

    def test_no_ring_of_rings_is_better(self):
        for converter in SOME[:120]:
            found = greatest_mean(converter)
            for state, text in rings_of(converter, 5):
                rate = ring_rate(converter, Ring(state, text))
                self.assertTrue(rate <= found.rate)
                self.equal(shows_mean(converter, Mean(rate, Ring(state, text), found.heights)), rate == found.rate)

    def test_some(self):
        self.equal((str(greatest_mean(LINES).rate), greatest_mean(LINES).ring == Ring("s", "n")), ("2", True))
        self.equal((str(greatest_mean(PACKS).rate), str(greatest_mean(TRAP).rate)), ("1/2", "3/2"))
        self.equal(str(greatest_mean(CYCLE).rate), "1/2")
        self.equal(str(greatest_mean(Converter.read("@s s:a>>s s$xx")).rate), "0")
        for converter in (FINITE, NO_TAIL, ONLY_EMPTY, Converter("s", {}, {})):
            self.assertIsNone(greatest_mean(converter))

    def test_six_states(self):
        best = max(mean(SIX, *ring) for ring in simple_rings(SIX, SIX.states))
        found = greatest_mean(SIX)
        self.equal((Fraction(found.rate.upper, found.rate.lower), shows_mean(SIX, found)), (best, True))
        self.holds(SIX, found)

    def test_the_same_again(self):
        for converter in SOME[:60]:
            turned = Converter(converter.start, dict(list(converter.steps.items())[::-1]),
                               dict(list(converter.tails.items())[::-1]))
            self.equal((converter == turned, greatest_mean(converter) == greatest_mean(turned)), (True, True))

    def test_what_is_returned_belongs_to_the_caller(self):
        greatest_mean(LINES).heights["s"] = None
        next(rings(LINES)).text = "x"
        self.equal((shows_mean(LINES, greatest_mean(LINES)), told(LINES)), (True, [("s", "a"), ("s", "n")]))
        self.equal(str(LINES), "@s s:a>a>s s:n>rn>s s$")

    def test_many_rings_take_no_long_time(self):
        begun = time.perf_counter()
        full = Converter("a", {(state, "klmn"[k]): ("xyz"[:k], "abcdef"[(ord(state) + k * (k + 1) // 2) % 6])
                               for state in "abcdef" for k in range(4)}, {"a": ""})
        found = greatest_mean(full)
        self.equal((shows_mean(full, found), len(list(islice(rings(full), 10)))), (True, 10))
        self.assertLess(time.perf_counter() - begun, 1)


class ShowsMean(Checks):
    def test_other_right_ones(self):
        for value in (Mean(Rate(2), Ring("s", "nn"), {"s": 5}), Mean(Rate(4, 2), Ring("s", "n" * 400), {"s": -10 ** 30}),
                      Mean(Rate(2), Ring("s", "n"), {"s": 0, "t": None, 5: "x", ("s", "n"): []})):
            self.equal(shows_mean(LINES, value), True)
        self.equal(shows_mean(value=Mean(Rate(2), Ring("s", "n"), {"s": 0}), converter=LINES), True)
        heights = {"s": 0, "t": 1}
        for ring in (Ring("s", "ab"), Ring("t", "ba"), Ring("s", "abab")):
            self.equal(shows_mean(TRAP, Mean(Rate(3, 2), ring, heights)), True)

    def test_heights_at_their_bound(self):
        for low, high, right in ((0, 1, True), (0, 0, False), (0, 2, False), (7, 8, True), (-1, 0, True), (1, 0, False)):
            self.equal(shows_mean(TRAP, Mean(Rate(3, 2), Ring("s", "ab"), {"s": low, "t": high})), right)
        # A way that is no ring bounds the heights, too.
        line = Converter.read("@s s:a>xxx>t t:b>y>t t$")
        for low, high, right in ((0, 2, True), (0, 1, False), (0, 100, True), (0, -1, False)):
            self.equal(shows_mean(line, Mean(Rate(1), Ring("t", "b"), {"s": low, "t": high})), right)
        # Steps that are not useful bound nothing.
        self.equal(shows_mean(TRAP, Mean(Rate(3, 2), Ring("s", "ab"), {"s": 0, "t": 1, "u": -50, "x": 0})), True)

    def test_wrong_rates(self):
        for rate in (Rate(1), Rate(3, 2), Rate(3), 2, True, None, "2", (2, 1), TWICE, "a", 0):
            self.equal(shows_mean(LINES, Mean(rate, Ring("s", "n"), {"s": 0})), False)
        self.equal(shows_mean(LINES, Mean(Rate(1), Ring("s", "a"), {"s": 0})), False)

    def test_wrong_rings(self):
        for ring in [*ANYTHING, ("s", "n"), Ring("s", ""), Ring("t", "n"), Ring("s", "x"), Ring("s", "a"), Ring("s", "an"),
                     Ring("s", "n" * 401), Ring(None, "n"), Ring("s", None), Ring("s", ["n"]), Ring(["s"], "n")]:
            if ring != Ring("s", "n"):
                self.equal(shows_mean(LINES, Mean(Rate(2), ring, {"s": 0})), False)

    def test_wrong_heights(self):
        for heights in [*ANYTHING, {"t": 0}, [0], ("s", 0), [("s", 0)]]:
            self.equal(shows_mean(LINES, Mean(Rate(2), Ring("s", "n"), heights)), False)
            if type(heights) is not int:
                self.equal(shows_mean(LINES, Mean(Rate(2), Ring("s", "n"), {"s": heights})), False)
        for heights in ({"s": 0}, {"t": 1}, {"s": 0, "t": None}, {"s": False, "t": True}, {}):
            self.equal(shows_mean(TRAP, Mean(Rate(3, 2), Ring("s", "ab"), heights)), False)

    def test_other_values(self):
        for value in [*ANYTHING, Ring("s", "n"), (Rate(2), Ring("s", "n"), {"s": 0}), "2", [Rate(2)]]:
            if not isinstance(value, Mean):
                self.equal(shows_mean(LINES, value), False)
        for value in [*ANYTHING, Mean(None, None, None), Mean(None, None, {}), Mean(Rate(0), Ring("s", ""), {})]:
            for converter in (FINITE, NO_TAIL, ONLY_EMPTY):
                self.equal(shows_mean(converter, value), value is None)

    def test_heights_that_are_too_steep_show_nothing(self):
        # A greater rate than any ring has can be shown by heights, but no ring has it.
        self.equal(shows_mean(LINES, Mean(Rate(5), Ring("s", "n"), {"s": 0})), False)


class Papers(Checks):
    def test_attributes(self):
        for value in ANYTHING:
            ring, told = Ring(value, 5), Mean(1, value, None)
            self.equal((ring.state, ring.text, told.rate, told.ring, told.heights), (value, 5, 1, value, None))
            self.equal((Ring(5, value).text, Mean(value, 1, 2).rate, Mean(1, 2, value).heights), (value,) * 3)
            self.equal((bool(ring), bool(told)), (True, True))
        ring, told = Ring(text=1, state=2), Mean(heights=1, ring=2, rate=3)
        self.equal((ring.state, ring.text, told.rate, told.ring, told.heights), (2, 1, 3, 2, 1))
        self.equal((bool(Ring(None, None)), bool(Mean(0, 0, 0))), (True, True))

    def test_equal_ones(self):
        for k, value in enumerate(ANYTHING):
            for j, other in enumerate(ANYTHING):
                for one, two in ((Ring(value, 1), Ring(other, 1)), (Ring(1, value), Ring(1, other)),
                                 (Mean(value, 1, 2), Mean(other, 1, 2)), (Mean(1, value, 2), Mean(1, other, 2)),
                                 (Mean(1, 2, value), Mean(1, 2, other))):
                    self.equal((one == two, one != two), (k == j, k != j))

    def test_kinds_count_within(self):
        for one, other in ((1, True), ([1], [True]), ((1,), [1]), ({"a": 1}, {"a": True}), ({1: 0}, {True: 0}),
                           ([[0]], [[False]]), ({"a": [1]}, {"a": (1,)}), ([], ()), ({(1, 2): 3}, {(True, 2): 3}),
                           ({"a": 1}, {"b": 1}), ({"a": 1}, {"a": 1, "b": 2}), ({"a": 1, "b": 2}, {"a": 1}), ([1], [1, 1])):
            self.equal((Ring(one, 0) == Ring(other, 0), Mean(0, 0, one) == Mean(0, 0, other)), (False, False))
        for one, other in (({"a": 1, "b": [2]}, {"b": [2], "a": 1}), ([(1, None)], [(1, None)]), ({(1, 2): 3}, {(1, 2): 3})):
            self.equal((Ring(one, 0) == Ring(other, 0), Mean(0, 0, one) == Mean(0, 0, other)), (True, True))

    def test_other_classes(self):
        for value in [*ANYTHING, ("s", "n"), Mean("s", "n", None)]:
            if not isinstance(value, Ring):
                self.equal((Ring("s", "n") == value, Ring("s", "n") != value), (False, True))
            if not isinstance(value, Mean):
                self.equal((Mean("s", "n", None) == value, Mean("s", "n", None) != value), (False, True))

    def test_what_was_passed_can_be_changed(self):
        inner, heights = [1, (2, [3])], {"s": 0, "t": [1]}
        ring = Ring(inner, heights)
        told, other = Mean(inner, ring, heights), Mean(1, heights, inner)
        inner.append(4)
        inner[1][1].append(5)
        heights["s"] = 9
        heights["t"].append(9)
        self.equal((ring.state, ring.text), ([1, (2, [3])], {"s": 0, "t": [1]}))
        self.equal((told.rate, told.ring == Ring([1, (2, [3])], {"s": 0, "t": [1]}), told.heights),
                   ([1, (2, [3])], True, {"s": 0, "t": [1]}))
        self.equal((other.ring, other.heights), ({"s": 0, "t": [1]}, [1, (2, [3])]))

    def test_arguments_stay(self):
        value = greatest_mean(LINES)
        shows_mean(LINES, value)
        ring_rate(LINES, value.ring)
        self.equal((str(value.rate), value.ring.state, value.ring.text, value.heights), ("2", "s", "n", {"s": 0}))
        with self.assertRaises(BadPaper):
            ring_rate(LINES, value)
        self.equal(value == greatest_mean(LINES), True)
