"""headgap/gaps.py and headgap/look_gaps.py: the gaps of texts, the greatest one of all, and what shows it."""

import time
from itertools import product

from headgap.converters import Converter
from headgap.errors import BadConverter, BadNumber, BadWord, NoStep, NoTail, NoText
from headgap.gaps import Enough, Never, gap, gap_for, gap_of, safe_length
from headgap.look_gaps import shows_gap
from headgap.papers import Verdict
from tests.checks import ANYTHING, LINES, NO_CONVERTERS, NO_INTEGERS, NO_TEXTS, Checks
from tests.plain_sizes import far_values, gap_by_cells, most_of, rows, useful_of, useful_steps, weight_along
from tests.plain_ways import taken, walk, words
from tests.samples import (
    BOTH, EACH, EDGES, EMPTY, FALLS, FINITE, GREAT, JUST_TAIL, NO_TAIL, NO_WAY, ODDS, ONLY_EMPTY, PACKS, PERCENT, RISING,
    SIX, SMALL, STUFF, TRAP)

FAR = [10 ** 12 + k for k in range(7)] + [10 ** 30 + k for k in range(7)]
# Heights below 0 ahead of some above it: the greatest one is at s, where no text of four letters comes to it.
HILLS = Converter.read("@s s:a>>t t:a>>u t:b>bbbb>v u:a>cccc>v v:c>>w w:a>>s s$ w$z")
# The greatest height is at a state without a step.
LAST = Converter.read("@s s:a>aaa>t s:b>b>s s$ t$")


def is_text(value):
    return type(value) is str and len(value) <= 400 and all("a" <= sign <= "z" for sign in value)


def is_right_enough(converter, number, heights, text):
    """Whether this is an Enough as the document tells it."""
    if type(number) is not int or type(heights) is not dict or not is_text(text) or not converter.takes(text):
        return False
    if sorted(map(repr, heights)) != sorted(map(repr, useful_of(converter))):
        return False
    if any(type(height) is not int for height in heights.values()) or heights[converter.start] < 0:
        return False
    for state, _, answer, to in useful_steps(converter):
        if heights[to] < heights[state] + len(answer) - 1 or heights[state] > number:
            return False
    return gap_by_cells(converter, text) == number


def is_right_never(converter, ahead, ring, behind):
    """Whether this is a Never as the document tells it."""
    if not all(is_text(part) for part in (ahead, ring, behind)) or len(ahead + ring + behind) > 400:
        return False
    if not all(converter.takes(ahead + ring * k + behind) for k in range(min(4, 401 // (len(ring) + 1)))
               if len(ahead + ring * k + behind) <= 400):
        return False
    states = walk(converter, ahead + ring)
    if states is None or states[-1] != states[len(ahead)]:
        return False
    return weight_along(converter, states[-1], ring) > 0


class GapOf(Checks):
    def test_by_cells(self):
        for converter in SMALL:
            for n in range(5):
                for text in taken(converter, n):
                    self.equal(gap_of(converter, text), gap_by_cells(converter, text))

    def test_few(self):
        for converter, text, told in ((LINES, "", 0), (LINES, "n", 0), (LINES, "nn", 1), (PERCENT, "pffx", 0),
                                      (PERCENT, "xpff", 0), (STUFF, "a" * 5, 0), (STUFF, "a" * 6, 1), (LAST, "a", 0),
                                      (ONLY_EMPTY, "", 0), (JUST_TAIL, "", 0), (HILLS, "aaac", 1), (HILLS, "abcaabc", 2)):
            self.equal(gap_of(converter, text), told)
            self.equal(gap_by_cells(converter, text), told)

    def test_long_ones(self):
        self.equal([gap_of(LINES, "n" * 400), gap_of(LINES, "a" * 399 + "n"), gap_of(LINES, "n" + "a" * 399)], [399, 0, 1])
        self.equal(gap_of(text="nn", converter=LINES), 1)

    def test_wrong_values(self):
        for value in NO_CONVERTERS:
            self.refused(BadConverter, ["converter"], gap_of, value, "a")
            self.refused(BadConverter, ["converter"], gap_of, value, value)
        for value in NO_TEXTS:
            for converter in (LINES, NO_TAIL):
                self.refused(BadWord, [value], gap_of, converter, value)
        for converter, text, fields in ((LINES, "nxa", [1, "s"]), (PACKS, "aaaca", [4, "u"]), (STUFF, "aaaax", [4, "t"]),
                                        (LINES, "a" * 399 + "b", [399, "s"]), (PERCENT, "pfx", [2, "v"])):
            self.refused(NoStep, fields, gap_of, converter, text)
        for converter, text, state in ((PERCENT, "pf", "v"), (NO_TAIL, "", "s"), (PACKS, "ac", "u"), (ODDS, "aa", "s")):
            self.refused(NoTail, [state], gap_of, converter, text)


class Greatest(Checks):
    def check(self, converter):
        told = gap(converter)
        if bool(told):
            self.assertIs(type(told), Enough)
            self.assertTrue(is_right_enough(converter, told.number, told.heights, told.text), str(converter))
        else:
            self.assertIs(type(told), Never)
            self.assertTrue(is_right_never(converter, told.ahead, told.ring, told.behind), str(converter))
        self.equal(shows_gap(converter, told), True)
        self.equal(gap(converter) == told, True)
        return told

    def test_what_it_tells(self):
        kinds = [0, 0]
        for converter in [*EACH, HILLS, LAST]:
            if not useful_of(converter):
                self.refused(NoText, [None], gap, converter)
                continue
            told = self.check(converter)
            growth = gap_for(converter)
            self.equal(growth.is_endless, not told)
            self.equal(growth.greatest, told.number if told else None)
            kinds[bool(told)] += 1
        self.assertGreater(min(kinds), 20)

    def test_of_all_texts(self):
        for converter in [*SMALL, HILLS, LAST]:
            if useful_of(converter) and gap(converter):
                told = [most_of(converter, n, lambda text: gap_by_cells(converter, text)) for n in range(6)]
                most = max(value for value in [*told, 0] if value is not None)
                self.assertLessEqual(most, gap(converter).number)
                if len(gap(converter).text) < 6:
                    self.equal(most, gap(converter).number)

    def test_few(self):
        self.equal([gap(converter).number for converter in (PERCENT, ONLY_EMPTY, JUST_TAIL, FINITE, HILLS, LAST)],
                   [0, 0, 0, 3, 2, 0])
        self.equal([gap(converter).text for converter in (ONLY_EMPTY, JUST_TAIL)], ["", ""])
        self.equal([bool(gap(converter)) for converter in (LINES, STUFF, RISING, BOTH)], [False] * 4)
        # The ring of u rises, but no tail lies behind it.
        self.equal(bool(gap(Converter.read("@s s:a>a>s s:b>b>u u:a>aaaa>u s$"))), True)
        self.equal(gap(converter=LINES) == Never("", "n", ""), True)

    def test_longer_rings(self):
        self.check(RISING)
        names = "abcdef"
        for at in range(6):
            # Each step but one is even; the ring of all six states rises by one, or falls by one.
            for many, told in ((2, False), (1, True), (0, True)):
                steps = {(names[k], "n"): ("y" * (many if k == at else 1), names[(k + 1) % 6]) for k in range(6)}
                for end in (0, 3):
                    self.equal(bool(self.check(Converter("a", steps, {names[end]: "q"}))), told)

    def test_papers(self):
        for value, other in product(ANYTHING, ANYTHING[::5]):
            for paper, told in ((Enough(value, other, value), True), (Never(other, value, value), False)):
                self.equal((bool(paper), isinstance(paper, Verdict)), (told, True))
            self.equal((Enough(value, other, value).number, Enough(other, value, other).heights), (value, value))
            self.equal((Enough(other, other, value).text, Never(value, other, other).ahead), (value, value))
            self.equal((Never(other, value, other).ring, Never(other, other, value).behind), (value, value))
        self.equal(Enough(text="a", heights={}, number=1) == Enough(1, {}, "a"), True)
        self.equal(Never(behind="a", ring="b", ahead="c") == Never("c", "b", "a"), True)
        for other in (Enough(2, {}, "a"), Enough(1, [], "a"), Enough(1, {}, ""), Enough(True, {}, "a"), Never(1, {}, "a"),
                      (1, {}, "a"), None):
            self.equal(Enough(1, {}, "a") == other, False)
        for other in (Never("a", "b", ""), Never("a", "c", "c"), Never("b", "b", "c"), Enough("a", "b", "c"), "abc", False):
            self.equal(Never("a", "b", "c") == other, False)

    def test_wrong_values(self):
        for value in NO_CONVERTERS:
            self.refused(BadConverter, ["converter"], gap, value)
            self.refused(BadConverter, ["converter"], gap, converter=value)
        for converter in EMPTY:
            self.refused(NoText, [None], gap, converter)

    def test_nothing_changes(self):
        for converter in (PERCENT, HILLS, LINES, SIX):
            before = (str(converter), dict(converter.steps), dict(converter.tails))
            told = gap(converter)
            if told:
                told.heights.clear()
                told.heights["s"] = None
                self.equal(gap(converter) == told, False)
            self.equal(shows_gap(converter, gap(converter)), True)
            self.equal((str(converter), converter.steps, converter.tails), before)
        heights = {"s": 0, "t": 3}
        paper = Enough(0, heights, "")
        heights.clear()
        self.equal(paper.heights, {"s": 0, "t": 3})


class GapFor(Checks):
    def test_of_all_texts(self):
        for converter in [*SMALL, HILLS, LAST]:
            for n in range(5):
                self.equal(gap_for(converter)[n], most_of(converter, n, lambda text: gap_by_cells(converter, text)))

    def test_from_length_to_length(self):
        for converter in EACH:
            told = [row.get(converter.start) for row in rows(converter, "gap", 170)]
            self.equal(list(gap_for(converter).stretch(0, 171)), told)

    def test_far_away(self):
        for converter in [*EDGES, *GREAT[:12]]:
            told = [row.get(converter.start) for row in far_values(converter, "gap", FAR)]
            self.equal([gap_for(converter)[n] for n in FAR], told)

    def test_few(self):
        self.equal([str(gap_for(converter)) for converter in (NO_TAIL, NO_WAY, ONLY_EMPTY, JUST_TAIL, FINITE, LAST)],
                   ["- ; 0", "- ; 0", "0 - ; 0", "0 - ; 0", "0 0 0 3 - ; 0", "0 ; 0"])
        self.equal(str(gap_for(converter=LINES)), "0 0 ; 1")

    def test_a_gap_that_falls_for_long(self):
        # It falls by one for each letter, but never below nought.
        self.equal(str(gap_for(FALLS)), "- - - - - 12 11 10 9 8 7 6 5 4 3 2 1 0 ; 0")
        two = Converter.read("@s r:a>>s s:a>>r s:b>wwww>t t:b>wwww>u u:b>wwww>v v:b>wwww>x x$")
        for converter in (FALLS, FALLS.begun("t"), FALLS.with_step("s", "c", "", "t"), FALLS.with_step("s", "b", "ww", "t"),
                          FALLS.with_tail("t", "pppp"), FALLS.with_step("x", "a", "", "x"), two, two.with_tail("t", "")):
            told = [row.get(converter.start) for row in rows(converter, "gap", 170)]
            self.equal(list(gap_for(converter).stretch(0, 171)), told)
            self.equal([gap_for(converter)[n] for n in FAR], [row.get(converter.start) for row in far_values(converter, "gap", FAR)])

    def test_slow_rings(self):
        # The ring of five letters rises by one alone.
        told = [row["a"] for row in rows(RISING, "gap", 400)]
        self.equal(list(gap_for(RISING).stretch(0, 401)), told)
        self.equal(gap_for(RISING).slope, (1, 5))

    def test_wrong_values(self):
        for value in NO_CONVERTERS:
            self.refused(BadConverter, ["converter"], gap_for, value)


class SafeLength(Checks):
    def test_from_length_to_length(self):
        for converter in EACH:
            told = [row.get(converter.start) for row in rows(converter, "gap", 150)]
            most = max([value for value in told if value is not None], default=-1)
            for cells in (0, 1, 2, 3, 5, 9):
                if cells < most:
                    first = [n for n, value in enumerate(told) if value is not None and value > cells]
                    self.equal(safe_length(converter, cells), first[0] - 1)
                elif gap_for(converter).is_endless:
                    self.assertGreaterEqual(safe_length(converter, cells), 150)
                else:
                    self.equal(safe_length(converter, cells), None)

    def test_many_cells(self):
        for cells in (10 ** 12, 10 ** 30, 10 ** 30 + 7):
            self.equal([safe_length(LINES, cells), safe_length(STUFF, cells)], [cells + 1, 5 * cells + 5])
            self.equal([safe_length(converter, cells) for converter in (PERCENT, NO_TAIL, FINITE)], [None] * 3)
            n = safe_length(RISING, cells)
            self.equal([gap_for(RISING)[n + 1] > cells, (gap_for(RISING)[n] or 0) <= cells], [True, True])

    def test_few(self):
        self.equal([safe_length(FINITE, cells) for cells in (0, 2, 3)], [2, 2, None])
        self.equal([safe_length(converter, 0) for converter in (NO_TAIL, NO_WAY, ONLY_EMPTY, JUST_TAIL, TRAP)],
                   [None, None, None, None, 1])
        self.equal(safe_length(cells=1, converter=LINES), 2)

    def test_wrong_values(self):
        for value in NO_CONVERTERS:
            self.refused(BadConverter, ["converter"], safe_length, value, 1)
            self.refused(BadConverter, ["converter"], safe_length, value, value)
        for value in [*NO_INTEGERS, -1, -10 ** 30]:
            for converter in (LINES, NO_TAIL):
                self.refused(BadNumber, [value], safe_length, converter, value)


class ShowsGap(Checks):
    def enough(self, converter, *parts):
        told = is_right_enough(converter, *parts)
        self.assertIs(shows_gap(converter, Enough(*parts)), told, (str(converter), parts))
        return told

    def never(self, converter, *parts):
        told = is_right_never(converter, *parts)
        self.assertIs(shows_gap(converter, Never(*parts)), told, (str(converter), parts))
        return told

    def test_numbers_and_heights_otherwise(self):
        for converter in [*EDGES[:-1], *SMALL[:60], *GREAT[:30], HILLS, LAST]:
            if not useful_of(converter) or not gap(converter):
                continue
            told = gap(converter)
            self.assertTrue(self.enough(converter, told.number, told.heights, told.text))
            for number in (told.number + 1, told.number - 1, -1, 0, bool(told.number), str(told.number), None):
                self.enough(converter, number, told.heights, told.text)
            for state, height in told.heights.items():
                for other in (height - 1, height + 1, -10 ** 30, 10 ** 30, told.number, True, None, str(height), [height]):
                    self.enough(converter, told.number, {**told.heights, state: other}, told.text)
                self.enough(converter, told.number, {name: told.heights[name] for name in told.heights if name != state},
                            told.text)
            for shift in (-1, 1, 5):
                self.enough(converter, told.number, {name: told.heights[name] + shift for name in told.heights}, told.text)
            for name in (*converter.states, "zz", "", None, 0, ("s",)):
                self.enough(converter, told.number, {**told.heights, name: told.heights.get(name, -20)}, told.text)
            for heights in ({}, None, list(told.heights.items()), list(told.heights), told.number):
                self.enough(converter, told.number, heights, told.text)

    def test_texts_otherwise(self):
        for converter in (PERCENT, HILLS, LAST, FINITE, ONLY_EMPTY):
            told = gap(converter)
            found = 0
            for n in range(6):
                for text in words(converter.letters or "a", n):
                    found += self.enough(converter, told.number, told.heights, text)
            self.assertGreater(found, 0)
            for text in (None, 0, told.text + "!", told.text.upper() + " ", [told.text], list(told.text), True):
                self.enough(converter, told.number, told.heights, text)
        heights = {"z": 0, "u": 0, "v": 0}
        self.equal([self.enough(PERCENT, 0, heights, "x" * 400), self.enough(PERCENT, 0, heights, "x" * 401)], [True, False])

    def test_heights_need_not_be_the_greatest(self):
        self.equal([shows_gap(LAST, Enough(0, heights, "a"))
                    for heights in ({"s": 0, "t": 2}, {"s": 0, "t": 90}, {"s": 0, "t": 1}, {"s": 1, "t": 3}, {"s": -1, "t": 2})],
                   [True, True, False, False, False])

    def test_rings_otherwise(self):
        for converter in (LINES, BOTH, TRAP, Converter.read("@s s:a>xx>t s:b>>s t:a>x>s t:b>>u u:a>xxx>t t$")):
            letters = converter.letters[:3]
            parts = [text for n in range(4) for text in words(letters, n)]
            found = 0
            for ahead, ring, behind in product(parts[:14], parts, parts[:14]):
                found += self.never(converter, ahead, ring, behind)
            self.assertGreater(found, 9)

    def test_rings_of_many_letters(self):
        for converter in [*EDGES, *GREAT]:
            told = gap(converter) if useful_of(converter) else True
            if told:
                continue
            ahead, ring, behind = told.ahead, told.ring, told.behind
            self.assertTrue(self.never(converter, ahead, ring, behind))
            self.assertTrue(self.never(converter, ahead, ring * 2, behind))
            self.assertTrue(self.never(converter, ahead + ring, ring, ring + behind))
            for k in range(len(ring)):
                self.never(converter, ahead, ring[:k], behind)
                self.never(converter, ahead, ring[k:], behind)
                self.never(converter, ahead, ring[k:] + ring[:k], behind)
                self.never(converter, ahead + ring[:k], ring[k:] + ring[:k], ring[k:] + behind)
                self.never(converter, ahead + ring[:k], ring, behind)
                self.never(converter, ahead, ring[:k] + ring[k + 1:], behind)
            self.never(converter, ahead, ring[::-1], behind)
            self.never(converter, ring, ahead, behind)
            self.never(converter, ahead, behind, ring)
            for value in (None, 1, True, [ring], list(ring), ring.upper(), ring + " "):
                self.equal([self.never(converter, value, ring, behind), self.never(converter, ahead, value, behind),
                            self.never(converter, ahead, ring, value)], [False] * 3)

    def test_four_hundred_letters_together(self):
        for ahead, behind in ((0, 0), (100, 100), (399, 0), (0, 399), (1, 1), (200, 199)):
            ring = 400 - ahead - behind
            self.equal(self.never(LINES, "a" * ahead, "n" * ring, "a" * behind), True)
            self.equal(self.never(LINES, "a" * ahead, "n" * (ring + 1), "a" * behind), False)
        self.equal([self.never(LINES, "a" * 400, "n", ""), self.never(LINES, "", "n", "a" * 400)], [False, False])
        self.equal(shows_gap(LINES, Never("n" * 401, "n", "")), False)

    def test_the_other_paper(self):
        self.equal([shows_gap(LINES, Enough(0, {"s": 0}, "a")), shows_gap(LINES, Enough(400, {"s": 0}, "a")),
                    shows_gap(PERCENT, Never("", "x", "")), shows_gap(PERCENT, Never("", "", ""))], [False] * 4)

    def test_other_values(self):
        for value in ANYTHING:
            for converter in (LINES, PERCENT):
                self.equal(shows_gap(converter, value), converter == LINES and value == Never("", "n", ""))
            for other in ANYTHING[::7]:
                self.enough(PERCENT, value, {"z": 0, "u": 0, "v": 0}, "xx")
                self.enough(PERCENT, 0, value, other)
                self.enough(PERCENT, 0, {"z": 0, "u": 0, "v": 0}, value)
                self.never(LINES, value, "n", other)
                self.never(LINES, other, value, "")
        self.equal([shows_gap(value=Never("", "n", ""), converter=LINES), shows_gap(LINES, ("", "n", ""))], [True, False])

    def test_wrong_values(self):
        for value in ANYTHING:
            for converter in EMPTY:
                self.refused(NoText, [None], shows_gap, converter, value)
        for value in NO_CONVERTERS:
            self.refused(BadConverter, ["converter"], shows_gap, value, Never("", "n", ""))
            self.refused(BadConverter, ["converter"], shows_gap, value, value)


class Time(Checks):
    def test_many_calls(self):
        begun = time.perf_counter()
        for converter in [SIX, RISING, *GREAT[:8]]:
            if useful_of(converter):
                shows_gap(converter, gap(converter))
                gap_for(converter)
                safe_length(converter, 10 ** 30)
        self.assertLess(time.perf_counter() - begun, 1)
