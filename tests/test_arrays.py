"""headgap/arrays.py and headgap/look_arrays.py: least arrays, extras, the greatest ones, and what shows them."""

import time
from itertools import product

from headgap.arrays import Beyond, Fits, array_for, array_of, extra, extra_for, extra_of, fits_in
from headgap.converters import Converter
from headgap.errors import BadConverter, BadNumber, BadWord, NoStep, NoTail, NoText
from headgap.gaps import gap_for
from headgap.growths import Growth
from headgap.look_arrays import shows_extra
from headgap.papers import Verdict
from headgap.runs import climbs
from headgap.sizes import longest
from tests.checks import ANYTHING, LINES, NO_CONVERTERS, NO_INTEGERS, NO_TEXTS, Checks
from tests.plain_arrays import array_by_cells, extra_by_cells, greatest_extras, is_text
from tests.plain_sizes import far_values, is_run_over, most_of, rows, useful_of, useful_steps, weight_along
from tests.plain_ways import taken, walk, words
from tests.samples import (
    BOTH, DEEP, DOWN_UP, EACH, EDGES, EMPTY, FINITE, GREAT, HIGH, JUST_TAIL, NO_TAIL, NO_WAY, ODDS, ONLY_EMPTY, PACKS,
    PERCENT, SIX, SMALL, STUFF, THROUGH, UP_DOWN, six_states)

# Converters of which some text needs more cells than text and answer, each alone.
MORE = [converter for converter in six_states(900, 9) if useful_of(converter) and any(greatest_extras(converter, 9))][:50]
FAR = [10 ** 12 + k for k in range(7)] + [10 ** 30 + k for k in range(7)]


def is_right_fits(converter, number, rises, losses, text):
    """Whether this is a Fits as the document tells it."""
    if type(number) is not int or not is_text(text) or not converter.takes(text):
        return False
    if type(rises) is not dict or type(losses) is not dict or extra_by_cells(converter, text) != number:
        return False
    if sorted(map(repr, [*rises, *losses])) != sorted(map(repr, useful_of(converter))):
        return False
    if any(type(worth) is not int or worth > number for worth in [*rises.values(), *losses.values()]):
        return False
    if rises.get(converter.start, 0) < 0:
        return False
    for state, _, answer, to in useful_steps(converter):
        weight = len(answer) - 1
        if state in rises and to in rises and rises[to] < rises[state] + weight:
            return False
        if state in losses and (to in rises or losses[to] > losses[state] + weight):
            return False
    return all(losses[state] >= -len(converter.tails[state]) for state in losses if state in converter.tails)


def is_right_beyond(converter, ahead, rising, between, falling, behind):
    """Whether this is a Beyond as the document tells it."""
    parts = (ahead, rising, between, falling, behind)
    if not all(is_text(part) for part in parts) or len("".join(parts)) > 400 or not converter.takes("".join(parts)):
        return False
    first, low = walk(converter, ahead), walk(converter, ahead + rising + between)
    for state, ring in ((first[-1], rising), (low[-1], falling)):
        if walk(converter, ring, state)[-1] != state:
            return False
    return weight_along(converter, first[-1], rising) > 0 > weight_along(converter, low[-1], falling)


class OneText(Checks):
    def test_by_cells(self):
        for converter in SMALL:
            for n in range(5):
                for text in taken(converter, n):
                    self.equal(array_of(converter, text), array_by_cells(converter, text))
                    self.equal(extra_of(converter, text), extra_by_cells(converter, text))

    def test_run_over_by_heights(self):
        for converter in SMALL[::3] + EDGES:
            for text in taken(converter, 4):
                heights = climbs(converter, text)[:-1]
                for ahead in range(6):
                    self.equal(is_run_over(converter, text, ahead), max(heights) > ahead)

    def test_few(self):
        for converter, text, cells, more in ((LINES, "", 0, 0), (LINES, "nna", 5, 0), (JUST_TAIL, "", 4, 0), (ODDS, "a", 3, 0),
                                             (BOTH, "nnnbbbb", 10, 3), (BOTH, "bbbbnnn", 7, 0), (PERCENT, "pff", 3, 0),
                                             (THROUGH, "aabb", 8, 0), (HIGH, "aaaaaa", 15, 3), (UP_DOWN, "aabaa", 7, 2),
                                             (DOWN_UP, "aabaa", 5, 0), (DEEP, "aabaaa", 8, 2)):
            self.equal((array_of(converter, text), extra_of(converter, text)), (cells, more))
            self.equal((array_by_cells(converter, text), extra_by_cells(converter, text)), (cells, more))

    def test_long_ones(self):
        for text in ("n" * 400, "a" * 400, "n" * 200 + "b" * 200, "b" * 200 + "n" * 200):
            self.equal(array_of(BOTH, text), array_by_cells(BOTH, text))
        self.equal([extra_of(BOTH, "n" * 199 + "b" * 201), extra_of(text="n" * 200, converter=BOTH)], [199, 0])
        self.equal(array_of(text="n" * 400, converter=LINES), 800)

    def test_wrong_values(self):
        for work in (array_of, extra_of):
            for value in NO_CONVERTERS:
                self.refused(BadConverter, ["converter"], work, value, "a")
                self.refused(BadConverter, ["converter"], work, value, value)
            for value in NO_TEXTS:
                for converter in (LINES, NO_TAIL):
                    self.refused(BadWord, [value], work, converter, value)
            for converter, text, fields in ((LINES, "nxa", [1, "s"]), (PACKS, "aaaca", [4, "u"]), (PERCENT, "pfx", [2, "v"])):
                self.refused(NoStep, fields, work, converter, text)
            for converter, text, state in ((PERCENT, "pf", "v"), (NO_TAIL, "", "s"), (ODDS, "aa", "s")):
                self.refused(NoTail, [state], work, converter, text)


class ArrayFor(Checks):
    def test_of_all_texts(self):
        for converter in SMALL:
            for n in range(5):
                self.equal(array_for(converter)[n], most_of(converter, n, lambda text: array_by_cells(converter, text)))

    def check(self, converter, longests, gaps, told):
        for n, one, other, value in zip(range(10 ** 6), longests, gaps, told):
            self.equal(value, None if one is None else max(one, n + other))

    def test_from_length_to_length(self):
        for converter in EACH:
            longests, gaps = ([row.get(converter.start) for row in rows(converter, word, 170)] for word in ("longest", "gap"))
            self.check(converter, longests, gaps, array_for(converter).stretch(0, 171))

    def test_far_away(self):
        for converter in [*EDGES, *GREAT[:12]]:
            longests, gaps = (far_values(converter, word, FAR) for word in ("longest", "gap"))
            for n, one, other in zip(FAR, longests, gaps):
                least, ahead = one.get(converter.start), other.get(converter.start)
                self.equal(array_for(converter)[n], None if least is None else max(least, n + ahead))

    def test_the_greater_one(self):
        for converter in EACH:
            self.equal(array_for(converter), longest(converter) | (Growth.ramp(1) + gap_for(converter)))

    def test_few(self):
        self.equal([str(array_for(converter)) for converter in (NO_TAIL, NO_WAY, ONLY_EMPTY, JUST_TAIL, FINITE, PERCENT)],
                   ["- ; 0", "- ; 0", "2 - ; 0", "4 - ; 0", "0 1 6 6 - ; 0", "0 ; 1"])
        self.equal(str(array_for(converter=LINES)), "0 ; 2")

    def test_wrong_values(self):
        for value in NO_CONVERTERS:
            self.refused(BadConverter, ["converter"], array_for, value)


class FitsIn(Checks):
    def test_from_length_to_length(self):
        for converter in EACH:
            growth = array_for(converter)
            told = growth.stretch(0, 200)
            for cells in (0, 1, 2, 3, 4, 7, 20, 50):
                first = [n for n, value in enumerate(told) if value is not None and value > cells]
                self.equal(fits_in(converter, cells), first[0] - 1 if first else None)
                if not first:
                    self.equal(growth.is_endless, False)

    def test_few(self):
        self.equal([fits_in(JUST_TAIL, 3), fits_in(JUST_TAIL, 4), fits_in(ONLY_EMPTY, 0), fits_in(ONLY_EMPTY, 1)],
                   [-1, None, -1, -1])
        self.equal([fits_in(ODDS, cells) for cells in range(6)], [0, 0, 0, 2, 2, 4])
        self.equal([fits_in(FINITE, 5), fits_in(FINITE, 6), fits_in(NO_TAIL, 0), fits_in(NO_WAY, 0)], [1, None, None, None])
        for cells in (10 ** 12, 10 ** 30):
            self.equal([fits_in(LINES, cells), fits_in(PERCENT, cells), fits_in(converter=FINITE, cells=cells)],
                       [cells // 2, cells, None])
            n = fits_in(STUFF, cells)
            self.equal([array_for(STUFF)[n] <= cells, array_for(STUFF)[n + 1] > cells], [True, True])

    def test_wrong_values(self):
        for value in NO_CONVERTERS:
            self.refused(BadConverter, ["converter"], fits_in, value, 1)
            self.refused(BadConverter, ["converter"], fits_in, value, value)
        for value in [*NO_INTEGERS, -1, -10 ** 30]:
            for converter in (LINES, NO_TAIL):
                self.refused(BadNumber, [value], fits_in, converter, value)


class ExtraFor(Checks):
    def test_of_all_texts(self):
        for converter in SMALL:
            for n in range(5):
                most = most_of(converter, n, lambda text: extra_by_cells(converter, text))
                if most is None:
                    self.refused(NoText, [n], extra_for, converter, n)
                else:
                    self.equal(extra_for(converter, n), most)

    def test_long_texts_of_two_letters(self):
        for converter in (BOTH.narrowed("n", "b"), UP_DOWN.narrowed("a", "b"), THROUGH, HIGH, DEEP):
            for n in (7, 9, 10):
                most = most_of(converter, n, lambda text: extra_by_cells(converter, text))
                if most is not None:
                    self.equal(extra_for(converter, n), most)

    def test_from_length_to_length(self):
        for converter in [*EDGES, *SMALL[:30], *GREAT, *MORE[:20]]:
            told = greatest_extras(converter, 60)
            for n in (0, 1, 2, 5, 17, 59, 60):
                if told[n] is None:
                    self.refused(NoText, [n], extra_for, converter, n)
                else:
                    self.equal(extra_for(converter, n), told[n])

    def test_two_hundred_letters(self):
        for converter in (BOTH, UP_DOWN, HIGH, THROUGH, SIX):
            told = greatest_extras(converter, 200)
            for n in (199, 200):
                if told[n] is not None:
                    self.equal(extra_for(converter, n), told[n])
        self.equal([extra_for(BOTH, 200), extra_for(LINES, 200), extra_for(n=0, converter=JUST_TAIL)], [99, 0, 0])

    def test_wrong_values(self):
        for value in NO_CONVERTERS:
            self.refused(BadConverter, ["converter"], extra_for, value, 3)
            self.refused(BadConverter, ["converter"], extra_for, value, value)
        for value in [*NO_INTEGERS, -1, 201, 10 ** 30, -10 ** 30]:
            for converter in (LINES, NO_TAIL, NO_WAY):
                self.refused(BadNumber, [value], extra_for, converter, value)
        for converter, n in ((NO_TAIL, 0), (NO_WAY, 200), (ODDS, 0), (ODDS, 200), (FINITE, 4), (ONLY_EMPTY, 1)):
            self.refused(NoText, [n], extra_for, converter, n)


class Greatest(Checks):
    def check(self, converter):
        told = extra(converter)
        if bool(told):
            self.assertIs(type(told), Fits)
            self.assertTrue(is_right_fits(converter, told.number, told.rises, told.losses, told.text), str(converter))
        else:
            self.assertIs(type(told), Beyond)
            parts = (told.ahead, told.rising, told.between, told.falling, told.behind)
            self.assertTrue(is_right_beyond(converter, *parts), str(converter))
            # Both repeated, the extra is beyond each number.
            found = [extra_of(converter, parts[0] + parts[1] * k * len(parts[3]) + parts[2] + parts[3] * k * len(parts[1])
                              + parts[4]) for k in (0, 5, 9) if 2 * k * len(parts[1]) * len(parts[3]) < 370]
            self.equal(found, sorted(found))
        self.equal(shows_extra(converter, told), True)
        self.equal(extra(converter) == told, True)
        return told

    def test_what_it_tells(self):
        kinds = [0, 0]
        above = 0
        for converter in EACH + MORE:
            if not useful_of(converter):
                self.refused(NoText, [None], extra, converter)
                continue
            told = self.check(converter)
            kinds[bool(told)] += 1
            extras = [value for value in greatest_extras(converter, 90) if value is not None]
            if told:
                above += told.number > 0
                self.equal(max(extras), told.number)
            else:
                self.assertGreater(max(extras), 5)
        self.assertGreater(min(*kinds, above), 20)

    def test_of_all_texts(self):
        for converter in SMALL:
            if useful_of(converter) and extra(converter):
                told = [most_of(converter, n, lambda text: extra_by_cells(converter, text)) for n in range(6)]
                most = max(value for value in [*told, 0] if value is not None)
                self.assertLessEqual(most, extra(converter).number)
                if len(extra(converter).text) < 6:
                    self.equal(most, extra(converter).number)

    def test_rings_in_their_order(self):
        self.equal([bool(extra(converter)) for converter in (BOTH, UP_DOWN, THROUGH, DOWN_UP, LINES, HIGH, DEEP)],
                   [False, False, False, True, True, True, True])
        # Of HIGH no ring rises, of DEEP none falls.
        self.equal([extra(converter).number for converter in (DOWN_UP, LINES, HIGH, DEEP, JUST_TAIL, ONLY_EMPTY)],
                   [1, 0, 9, 4, 0, 0])
        for converter, told in ((UP_DOWN, Beyond("", "a", "b", "a", "")), (THROUGH, Beyond("", "aa", "", "bb", ""))):
            self.equal(shows_extra(converter, told), True)
            self.check(converter)

    def test_papers(self):
        for value, other in product(ANYTHING, ANYTHING[::5]):
            self.equal((bool(Fits(value, other, value, other)), bool(Beyond(value, other, other, value, value))), (True, False))
            paper = Fits(value, other, other, value)
            self.equal((paper.number, paper.rises, paper.losses, paper.text), (value, other, other, value))
            paper = Beyond(value, other, value, other, value)
            self.equal((paper.ahead, paper.rising, paper.between, paper.falling, paper.behind),
                       (value, other, value, other, value))
            self.assertIsInstance(paper, Verdict)
        self.equal(Fits(text="a", losses={}, rises={"s": 1}, number=2) == Fits(2, {"s": 1}, {}, "a"), True)
        self.equal(Beyond(behind="e", falling="d", between="c", rising="b", ahead="a") == Beyond(*"abcde"), True)
        for other in (Fits(3, {"s": 1}, {}, "a"), Fits(2, {"s": 2}, {}, "a"), Fits(2, {"s": True}, {}, "a"),
                      Fits(2, {"s": 1}, [], "a"), Fits(2, {"s": 1}, {}, "b"), None, (2, {"s": 1}, {}, "a")):
            self.equal(Fits(2, {"s": 1}, {}, "a") == other, False)
        for k in range(5):
            self.equal(Beyond(*"abcde") == Beyond(*("abcde"[:k] + "x" + "abcde"[k + 1:])), False)
        self.equal([Beyond(*"abcde") == other for other in ("abcde", False, Fits(*"abcd"), tuple("abcde"))], [False] * 4)

    def test_wrong_values(self):
        for value in NO_CONVERTERS:
            self.refused(BadConverter, ["converter"], extra, value)
            self.refused(BadConverter, ["converter"], extra, converter=value)
        for converter in EMPTY:
            self.refused(NoText, [None], extra, converter)

    def test_nothing_changes(self):
        for converter in (PERCENT, HIGH, LINES, SIX, BOTH):
            before = (str(converter), dict(converter.steps), dict(converter.tails))
            told = extra(converter)
            if told:
                told.rises.clear()
                told.losses["zz"] = None
                self.equal(extra(converter) == told, False)
            self.equal(shows_extra(converter, extra(converter)), True)
            self.equal((str(converter), converter.steps, converter.tails), before)
        rises, losses = {"s": 0}, {}
        paper = Fits(0, rises, losses, "")
        rises.clear()
        losses["s"] = 1
        self.equal((paper.rises, paper.losses), ({"s": 0}, {}))


class ShowsExtra(Checks):
    def fits(self, converter, *parts):
        told = is_right_fits(converter, *parts)
        self.assertIs(shows_extra(converter, Fits(*parts)), told, (str(converter), parts))
        return told

    def beyond(self, converter, *parts):
        told = is_right_beyond(converter, *parts)
        self.assertIs(shows_extra(converter, Beyond(*parts)), told, (str(converter), parts))
        return told

    def fitting(self):
        for converter in [*EDGES[:-1], *SMALL[:40], *GREAT[:10], *MORE[:20]]:
            if useful_of(converter):
                told = extra(converter)
                if told:
                    yield converter, told.number, told.rises, told.losses, told.text

    def test_numbers_otherwise(self):
        for converter, number, rises, losses, text in self.fitting():
            self.assertTrue(self.fits(converter, number, rises, losses, text))
            for other in (number + 1, number - 1, -1, 0, bool(number), str(number), None, [number]):
                self.fits(converter, other, rises, losses, text)

    def test_rises_and_losses_otherwise(self):
        for converter, number, rises, losses, text in self.fitting():
            for state in (*rises, *losses):
                worth = rises.get(state, losses.get(state))
                for other in (worth - 1, worth + 1, number, number + 1, -10 ** 30, 0, True, None, str(worth), [worth]):
                    # Up, down, of other kinds; on its own side, and on the other one.
                    for side in (state in rises, state not in rises):
                        ups = {**{name: rises[name] for name in rises if name != state}, **({state: other} if side else {})}
                        downs = {**{name: losses[name] for name in losses if name != state},
                                 **({} if side else {state: other})}
                        self.fits(converter, number, ups, downs, text)
                self.fits(converter, number, {name: rises[name] for name in rises if name != state},
                          {name: losses[name] for name in losses if name != state}, text)
                self.fits(converter, number, {**rises, state: worth}, {**losses, state: worth}, text)
            self.fits(converter, number, losses, rises, text)
            self.fits(converter, number, {**rises, **losses}, {}, text)
            self.fits(converter, number, {}, {**rises, **losses}, text)

    def test_further_states(self):
        for converter, number, rises, losses, text in self.fitting():
            for name in ("zz", "", None, 0, ("s",), *converter.states):
                if name not in {**rises, **losses}:
                    self.equal(self.fits(converter, number, {**rises, name: -9}, losses, text), False)
                    self.equal(self.fits(converter, number, rises, {**losses, name: 0}, text), False)
            for other in (None, [], list(rises), list(losses.items()), 0, True, ()):
                self.equal(self.fits(converter, number, other, losses, text), False)
                self.equal(self.fits(converter, number, rises, other, text), False)

    def test_texts_otherwise(self):
        for converter in (LINES, DOWN_UP, HIGH, DEEP, FINITE, ONLY_EMPTY):
            told = extra(converter)
            found = 0
            for text in [told.text, *[text for n in range(6) for text in words(converter.letters or "a", n)]]:
                found += self.fits(converter, told.number, told.rises, told.losses, text)
            self.assertGreater(found, 0)
            for text in (None, 0, told.text + "!", told.text + " ", [told.text], list(told.text), True):
                self.equal(self.fits(converter, told.number, told.rises, told.losses, text), False)
        self.equal([self.fits(LINES, 0, {}, {"s": 0}, "n" * n) for n in (400, 401)], [True, False])

    def test_they_need_not_be_those_of_extra(self):
        self.equal([shows_extra(LINES, Fits(0, {}, {"s": worth}, "nn")) for worth in (-1, 0, 1)], [False, True, False])
        flat = Converter.read("@s s:a>x>t t:a>x>s s$ t$")
        told = [shows_extra(flat, Fits(0, {"s": one, "t": other}, {}, "")) for one in (-1, 0) for other in (-1, 0)]
        self.equal(told, [False, False, False, True])
        told = [shows_extra(flat, Fits(0, {"s": 0}, {"t": worth}, "")) for worth in (-1, 0)]
        self.equal(told, [False, False])

    def test_texts_of_beyond_otherwise(self):
        for converter in (BOTH, UP_DOWN, THROUGH):
            parts = [text for n in range(3) for text in words(converter.letters, n)]
            found = 0
            for rising, between, falling in product(parts, parts, parts):
                for ahead, behind in (("", ""), ("a", "")) if converter != UP_DOWN else (("", ""), ("", "c")):
                    found += self.beyond(converter, ahead, rising, between, falling, behind)
            self.assertGreater(found, 2)

    def test_rings_of_beyond_otherwise(self):
        for converter in EACH:
            told = extra(converter) if useful_of(converter) else True
            if told:
                continue
            ahead, rising, between, falling, behind = parts = (
                told.ahead, told.rising, told.between, told.falling, told.behind)
            self.assertTrue(self.beyond(converter, *parts))
            self.assertTrue(self.beyond(converter, ahead + rising, rising * 2, rising + between + falling, falling * 3,
                                        falling + behind))
            self.beyond(converter, ahead, falling, between, rising, behind)
            for ring, at in ((rising, 1), (falling, 3)):
                for k in range(len(ring)):
                    for other in (ring[:k], ring[k:], ring[k:] + ring[:k], ring[:k] + ring[k + 1:], ring[::-1]):
                        self.beyond(converter, *parts[:at], other, *parts[at + 1:])
                    # Begun elsewhere.
                    self.beyond(converter, *parts[:at - 1], parts[at - 1] + ring[:k], ring[k:] + ring[:k],
                                ring[k:] + parts[at + 1], *parts[at + 2:])
                    self.beyond(converter, *parts[:at - 1], parts[at - 1] + ring[:k], ring, *parts[at + 1:])
            for at in range(5):
                for value in ("", None, 1, True, [parts[at]], parts[at].upper() + " ", list(parts[at])):
                    self.beyond(converter, *parts[:at], value, *parts[at + 1:])

    def test_four_hundred_letters_together(self):
        for parts in (("n" * 100, "n" * 100, "b", "b" * 99, "b" * 100), ("", "n" * 398, "b", "b", ""),
                      ("n" * 397, "n", "b", "b", ""), ("", "n", "b", "b", "b" * 397), ("", "n", "b" * 396, "b", "bb")):
            self.equal([len("".join(parts)), self.beyond(BOTH, *parts)], [400, True])
            for k in range(5):
                longer = (*parts[:k], parts[k] + ("n" if k < 2 else "b"), *parts[k + 1:])
                self.equal([len("".join(longer)), self.beyond(BOTH, *longer)], [401, False])

    def test_the_other_paper(self):
        self.equal([shows_extra(LINES, Beyond("", "n", "", "a", "")), shows_extra(LINES, Beyond("", "n", "", "", "")),
                    shows_extra(BOTH, Fits(0, {"x": 0, "y": 0}, {}, "")),
                    shows_extra(BOTH, Fits(9, {}, {"x": 0, "y": 0}, ""))], [False] * 4)

    def test_other_values(self):
        right = Fits(0, {}, {"s": 0}, "nn")
        for value in ANYTHING:
            self.equal(shows_extra(LINES, value), value == right)
            self.equal(shows_extra(BOTH, value), False)
            for other in ANYTHING[::7]:
                self.fits(LINES, value, {}, {"s": 0}, "nn")
                self.fits(LINES, 0, value, {"s": 0}, other)
                self.fits(LINES, 0, {}, value, "nn")
                self.fits(LINES, 0, {}, {"s": 0}, value)
                self.beyond(BOTH, value, "n", "b", "b", other)
                self.beyond(BOTH, other, "n", "b", value, "")
        self.equal([shows_extra(value=right, converter=LINES), shows_extra(LINES, (0, {}, {"s": 0}, "nn"))], [True, False])

    def test_wrong_values(self):
        for value in ANYTHING:
            for converter in EMPTY:
                self.refused(NoText, [None], shows_extra, converter, value)
        for value in NO_CONVERTERS:
            self.refused(BadConverter, ["converter"], shows_extra, value, Fits(0, {}, {"s": 0}, "nn"))
            self.refused(BadConverter, ["converter"], shows_extra, value, value)


class Time(Checks):
    def test_many_calls(self):
        begun = time.perf_counter()
        for converter in [SIX, UP_DOWN, HIGH, *GREAT[:7]]:
            if useful_of(converter):
                shows_extra(converter, extra(converter))
                array_for(converter)
                fits_in(converter, 10 ** 30)
                if converter.takes(""):
                    extra_for(converter, 200 if 200 in longest(converter) else 0)
        self.assertLess(time.perf_counter() - begun, 1)
