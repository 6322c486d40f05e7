"""headgap/sizes.py and headgap/look_sizes.py: the greatest and the least lengths, bursts, tables, and their texts."""

import random
import time
from math import gcd

from headgap.converters import Converter
from headgap.errors import BadConverter, BadNumber, BadWord, NoText
from headgap.growths import Growth
from headgap.look_sizes import shows_table
from headgap.rings import greatest_mean
from headgap.sizes import Table, burst, least, longest, table, text_for
from tests.checks import ANYTHING, LINES, NO_CONVERTERS, NO_INTEGERS, TWICE, Checks
from tests.plain_sizes import bursts, far_values, most_of, rows, useful_of
from tests.plain_ways import taken, walk
from tests.samples import (
    EACH, EDGES, EMPTY, FINITE, GREAT, JUST_TAIL, LATE, NO_TAIL, NO_WAY, ODDS, ONLY_EMPTY, PACKS, RESTS, RISING, SHARED,
    SIX, SMALL, STUFF, TRAP)

WORDS = ("longest", "least", "burst", "gap")
NO_WORDS = [value for value in ANYTHING if value not in WORDS] + ["Gap", "gap ", "gaps", "longest\n", ("gap",)]
FAR = [10 ** 12 + k for k in range(7)] + [10 ** 30 + k for k in range(7)]


def values(growths, n):
    return {state: growth[n] for state, growth in growths.items()}


def ring_by_ring(lengths, chance):
    """A converter with rings of these lengths, one behind the other, and ways from each of them to the next one."""
    steps, names, ahead = {}, list("stuvwx"), []
    for many in lengths:
        ring, names = names[:many], names[many:]
        for at, name in enumerate(ring):
            steps[name, "a"] = ("wxyz"[:chance.randint(0, 4)], ring[(at + 1) % many])
        if ahead:
            steps[chance.choice(ahead), "b"] = ("wxyz"[:chance.randint(0, 4)], chance.choice(ring))
        ahead = ring
    tails = {name: "pqrs"[:chance.randint(0, 4)] for name in "stuvwx"[:sum(lengths)] if chance.random() < 0.3}
    return Converter("s", steps, {**tails, ahead[0]: "p"})


class Lengths(Checks):
    def test_of_all_texts(self):
        for converter in SMALL:
            for n in range(5):
                self.equal(longest(converter)[n], most_of(converter, n, lambda text: len(converter(text))))
                self.equal(least(converter)[n], most_of(converter, n, lambda text: len(converter(text)), min))

    def test_from_length_to_length(self):
        for converter in EACH:
            for work, word in ((longest, "longest"), (least, "least")):
                told = [row.get(converter.start) for row in rows(converter, word, 170)]
                self.equal(list(work(converter).stretch(0, 171)), told)

    def test_no_text_is_taken(self):
        for converter in EMPTY:
            self.equal([str(work(converter)) for work in (longest, least, burst)], ["- ; 0"] * 3)

    def test_few_texts(self):
        self.equal([str(work(ONLY_EMPTY)) for work in (longest, least, burst)], ["2 - ; 0", "2 - ; 0", "0 - ; 0"])
        self.equal([str(work(JUST_TAIL)) for work in (longest, least, burst)], ["4 - ; 0", "4 - ; 0", "0 - ; 0"])
        self.equal([str(work(FINITE)) for work in (longest, least)], ["0 1 6 6 - ; 0", "0 1 1 2 - ; 0"])
        self.equal(str(burst(FINITE)), "0 4 5 6 - ; 0")

    def test_states_that_are_in_no_text(self):
        self.equal([str(longest(TRAP)), str(least(TRAP))], ["0 - ; 3 0", "0 - ; 2 0"])
        self.equal(str(burst(TRAP)), "0 2 ; 3 3")

    def test_none_at_some_rests_for_ever(self):
        growth = longest(RESTS)
        self.equal([growth[n] is None for n in range(9, 21)], [n % 6 in (0, 2) for n in range(9, 21)])
        slopes = [None if growth[n] is None else growth[n + 6] - growth[n] for n in range(600, 606)]
        self.equal(slopes, [None, 24, None, 24, 4, 24])
        self.equal(growth.period, 6)

    def test_the_slower_ring_is_ahead_for_long(self):
        growth, told = longest(LATE), rows(LATE, "longest", 400)
        self.equal(list(growth.stretch(0, 401)), [row["s"] for row in told])
        # Texts of 6k letters go by both rings: that of two states gains 9 in six letters, that of three 10.
        gains = [growth[n + 6] - growth[n] for n in range(6, 300, 6)]
        self.equal((gains[:11], gains[11:]), ([9] * 11, [10] * len(gains[11:])))
        self.equal([growth[n] for n in (66, 72, 78)], [107, 116, 126])

    def test_rings_that_share_states(self):
        growth = longest(SHARED)
        self.equal(list(growth.stretch(0, 300)), [row["a"] for row in rows(SHARED, "longest", 299)])
        self.equal((growth.period, growth.slope), (5, (16, 5)))

    def test_rings_of_all_lengths_that_share_no_state(self):
        chance = random.Random(6)
        periods = set()
        for lengths in [(k,) for k in range(1, 7)] + [(1, 5), (5, 1), (2, 4), (4, 2), (3, 3), (2, 3), (3, 2), (1, 4), (1, 2, 3), (3, 2, 1), (2, 2, 2), (1, 1, 4)]:
            for _ in range(8):
                converter = ring_by_ring(lengths, chance)
                for word in WORDS:
                    growths = table(converter, word).growths
                    told, far = rows(converter, word, 150), far_values(converter, word, FAR)
                    self.equal([values(growths, n) for n in [*range(151), *FAR]], [*told, *far])
                    periods |= {growth.period for growth in growths.values()}
        self.equal(sorted(periods), [1, 2, 3, 4, 5, 6])

    def test_far_away(self):
        for converter in [*EDGES, *GREAT[:12]]:
            for work, word in ((longest, "longest"), (least, "least")):
                told = [row.get(converter.start) for row in far_values(converter, word, FAR)]
                self.equal([work(converter)[n] for n in FAR], told)

    def test_the_greatest_gain_is_the_greatest_mean(self):
        for converter in EACH:
            told = greatest_mean(converter)
            slope = longest(converter).slope
            self.equal(slope, None if told is None else (told.rate.upper, told.rate.lower))
            gains, period = longest(converter).gains, longest(converter).period
            if told is not None:
                part = gcd(max(gains), period)
                self.equal((max(gains) // part, period // part), slope)

    def test_wrong_values(self):
        for value in NO_CONVERTERS:
            for work in (longest, least, burst):
                self.refused(BadConverter, ["converter"], work, value)
                self.refused(BadConverter, ["converter"], work, converter=value)
        self.equal([work(converter=LINES) for work in (longest, least, burst)],
                   [TWICE, Growth.ramp(1), TWICE])


class Bursts(Checks):
    def test_of_all_ways(self):
        for converter in SMALL:
            for n in range(5):
                self.equal(burst(converter)[n], max(bursts(converter, n), default=None))

    def test_from_length_to_length(self):
        for converter in EACH:
            told = [max([value for value in row.values() if value is not None], default=None)
                    for row in rows(converter, "burst", 170)]
            self.equal(list(burst(converter).stretch(0, 171)), told)

    def test_far_away(self):
        for converter in [*EDGES, *GREAT[:12]]:
            told = [max([value for value in row.values() if value is not None], default=None)
                    for row in far_values(converter, "burst", FAR)]
            self.equal([burst(converter)[n] for n in FAR], told)

    def test_whatever_comes_behind(self):
        # No tail follows one letter, but the burst of one letter is told.
        self.equal([str(longest(ODDS)), str(burst(ODDS))], ["- 3 ; 0 2", "0 2 ; 2 2"])
        self.equal([str(burst(PACKS)), str(burst(LINES))], ["0 1 ; 1 1", "0 ; 2"])


class Tables(Checks):
    def test_from_length_to_length(self):
        for converter in EACH:
            for word in WORDS:
                growths = table(converter, word).growths
                self.equal(sorted(growths), list(useful_of(converter)))
                for n, row in enumerate(rows(converter, word, 160)):
                    self.equal(values(growths, n), row)

    def test_far_away(self):
        for converter in [*EDGES, *GREAT[:8]]:
            for word in WORDS:
                growths = table(converter, word).growths
                self.equal([values(growths, n) for n in FAR], far_values(converter, word, FAR))

    def test_papers(self):
        told = table(LINES, "gap")
        self.assertIs(type(told), Table)
        self.equal((told == Table({"s": Growth([0, 0], [1])}), bool(told), bool(Table(None))), (True, True, True))
        self.equal([told == other for other in (Table({}), Table({"s": TWICE}), {"s": Growth([0, 0], [1])}, None)],
                   [False] * 4)
        for value in ANYTHING:
            paper = Table(value)
            self.equal(paper.growths, value)
            self.equal(paper == Table(growths=value), True)
        self.equal((Table(1) == Table(True), Table([1]) == Table((1,)), Table([0]) != Table([False])), (False, False, True))

    def test_no_useful_states(self):
        for converter in EMPTY:
            for word in WORDS:
                self.equal(table(converter, word) == Table({}), True)

    def test_wrong_values(self):
        for value in NO_CONVERTERS:
            self.refused(BadConverter, ["converter"], table, value, "gap")
            self.refused(BadConverter, ["converter"], table, value, value)
            self.refused(BadConverter, ["converter"], shows_table, value, value, value)
        for value in NO_WORDS:
            self.refused(BadWord, [value], table, LINES, value)
            self.refused(BadWord, [value], table, NO_TAIL, word=value)
            self.refused(BadWord, [value], shows_table, LINES, value, Table({"s": TWICE}))
            self.refused(BadWord, [value], shows_table, LINES, value, value)
        self.equal(table(word="longest", converter=LINES) == Table({"s": TWICE}), True)
        self.equal(shows_table(word="longest", value=Table({"s": TWICE}), converter=LINES), True)

    def test_nothing_changes(self):
        for converter in (LINES, STUFF, SIX):
            before = (str(converter), dict(converter.steps), dict(converter.tails))
            told = table(converter, "gap")
            told.growths.clear()
            told.growths["s"] = None
            self.equal(shows_table(converter, "gap", table(converter, "gap")), True)
            self.equal((str(converter), converter.steps, converter.tails), before)
        growths = {"s": TWICE}
        paper = Table(growths)
        self.equal(shows_table(LINES, "longest", paper), True)
        self.equal(growths, {"s": TWICE})
        growths.clear()
        self.equal(paper.growths, {"s": TWICE})


class ShowsTable(Checks):
    def shown(self, converter, word, growths, told):
        self.equal(shows_table(converter, word, Table(growths)), told)

    def test_what_table_tells(self):
        for converter in EACH:
            for word in WORDS:
                told = table(converter, word)
                self.equal(shows_table(converter, word, told), True)
                for other in WORDS:
                    self.equal(shows_table(converter, other, told), told == table(converter, other))

    def test_one_number_otherwise(self):
        for converter in (LINES, STUFF, ODDS, RESTS, LATE, SHARED, RISING, FINITE, TRAP, SIX):
            for word in WORDS:
                growths = table(converter, word).growths
                for state, growth in growths.items():
                    for at, value in enumerate(growth.told):
                        for other in (None, 0, 10 ** 30) if value is None else (None, value + 1, value - 1):
                            changed = Growth([*growth.told[:at], other, *growth.told[at + 1:]], growth.gains)
                            self.shown(converter, word, {**growths, state: changed}, changed == growth)

    def test_one_gain_otherwise(self):
        for converter in (LINES, STUFF, ODDS, RESTS, LATE, SHARED, RISING, FINITE, TRAP, SIX):
            for word in WORDS:
                growths = table(converter, word).growths
                for state, growth in growths.items():
                    for at, gain in enumerate(growth.gains):
                        for other in (gain + 1, gain - 1):
                            changed = Growth(growth.told, [*growth.gains[:at], other, *growth.gains[at + 1:]])
                            self.shown(converter, word, {**growths, state: changed}, changed == growth)

    def test_all_gains_otherwise(self):
        # Within one ring all slopes change together, so each state fits the next one; only behind a tail it does not.
        for slope in (0, 1, 3):
            self.shown(LINES, "longest", {"s": Growth.ramp(slope)}, False)
        ring = Converter.read("@s s:a>x>t t:a>yy>s s$")
        growths = table(ring, "longest").growths
        self.shown(ring, "longest", growths, True)
        self.shown(ring, "longest", {state: growth + 1 for state, growth in growths.items()}, False)
        for word in WORDS:
            growths = table(STUFF, word).growths
            self.shown(STUFF, word, {state: growth + 1 for state, growth in growths.items()}, False)

    def test_other_only_far_away(self):
        for word in WORDS:
            growths = table(LINES, word).growths
            for begin in (200, 1000, 3990):
                told = list(growths["s"].stretch(0, begin))
                gain = growths["s"].gains[0]
                for extra in (-1, 1):
                    self.shown(LINES, word, {"s": Growth(told, [gain + extra])}, False)
                    self.shown(LINES, word, {"s": Growth([*told, told[-1] + gain + extra], [gain])}, False)
                    self.shown(LINES, word, {"s": Growth([*told, None], [gain])}, False)

    def test_periods_that_no_converter_has(self):
        for many in (2, 7, 11, 59, 60):
            told = [2 * n for n in range(many)]
            self.shown(LINES, "longest", {"s": Growth(told, [2 * many] * many)}, True)
            self.shown(LINES, "longest", {"s": Growth(told, [2 * many] * (many - 1) + [2 * many + 1])}, False)
            self.shown(LINES, "longest", {"s": Growth(told[:-1] + [2 * many - 1], [2 * many] * many)}, False)

    def test_states(self):
        for word in WORDS:
            growths = table(STUFF, word).growths
            for state in growths:
                self.shown(STUFF, word, {name: growths[name] for name in growths if name != state}, False)
                self.shown(STUFF, word, {**growths, state: str(growths[state])}, False)
                self.shown(STUFF, word, {**growths, state: growths[state].told}, False)
                self.shown(STUFF, word, {**growths, state: None}, False)
            for name in ("x", "", "P", 1, None, ("p",)):
                self.shown(STUFF, word, {**growths, name: growths["p"]}, False)
            self.shown(STUFF, word, dict(reversed(list(growths.items()))), True)
            self.shown(STUFF, word, {**growths, "p": growths["q"], "q": growths["p"]}, growths["p"] == growths["q"])
            # Of TRAP u and x are not useful, so no growth belongs to them.
            growths = table(TRAP, word).growths
            for name in "ux":
                self.shown(TRAP, word, {**growths, name: Growth.none()}, False)

    def test_no_useful_states(self):
        for converter in EMPTY:
            for word in WORDS:
                self.shown(converter, word, {}, True)
                self.shown(converter, word, {converter.start: Growth.none()}, False)

    def test_other_values(self):
        for value in ANYTHING:
            self.equal(shows_table(LINES, "longest", value), value == Table({"s": TWICE}))
            self.shown(LINES, "longest", value, False)
            self.shown(LINES, "longest", {"s": value}, isinstance(value, Growth))
        for value in ({"s": TWICE}, [("s", TWICE)], TWICE, [Table({"s": TWICE})]):
            self.equal(shows_table(LINES, "longest", value), False)


class TextFor(Checks):
    def test_of_all_texts(self):
        for converter in SMALL:
            for n in range(5):
                most = most_of(converter, n, lambda text: len(converter(text)))
                if most is None:
                    self.refused(NoText, [n], text_for, converter, n)
                else:
                    told = [text for text in taken(converter, n) if len(converter(text)) == most]
                    self.equal(text_for(converter, n), told[0])

    def test_long_ones(self):
        for converter in EACH:
            told = rows(converter, "longest", 400)
            for n in (0, 1, 6, 37, 399, 400):
                most = told[n].get(converter.start)
                if most is None:
                    self.refused(NoText, [n], text_for, converter, n)
                    continue
                text = text_for(converter, n)
                self.equal((len(text), len(converter(text))), (n, most))
                self.check_first(converter, text, told)

    def check_first(self, converter, text, told):
        """At no letter of the text a lesser one leads on to an answer as long."""
        states = walk(converter, text)
        for at, state in enumerate(states[:-1]):
            left = len(text) - at
            for letter in converter.letters:
                if letter < text[at] and converter[state, letter] is not None:
                    answer, to = converter[state, letter]
                    worth = told[left - 1].get(to)
                    self.assertFalse(worth is not None and worth + len(answer) == told[left][state])

    def test_few(self):
        self.equal([text_for(LINES, 3), text_for(PACKS, 4), text_for(STUFF, 5), text_for(ONLY_EMPTY, 0)],
                   ["nnn", "aaaa", "aaaaa", ""])
        self.equal(text_for(n=2, converter=LINES), "nn")

    def test_wrong_values(self):
        for value in NO_CONVERTERS:
            self.refused(BadConverter, ["converter"], text_for, value, 3)
            self.refused(BadConverter, ["converter"], text_for, value, value)
        for value in [*NO_INTEGERS, -1, 401, 10 ** 30, -10 ** 30]:
            for converter in (LINES, NO_TAIL, NO_WAY):
                self.refused(BadNumber, [value], text_for, converter, value)
        for converter, n in ((NO_TAIL, 0), (NO_WAY, 400), (ODDS, 0), (ODDS, 2), (ODDS, 400), (FINITE, 4), (ONLY_EMPTY, 1)):
            self.refused(NoText, [n], text_for, converter, n)


class Time(Checks):
    def test_many_calls(self):
        begun = time.perf_counter()
        for converter in [SIX, LATE, SHARED, *GREAT[:7]]:
            for word in WORDS:
                shows_table(converter, word, table(converter, word))
            for work in (longest, least, burst):
                work(converter)
        self.assertLess(time.perf_counter() - begun, 2)
