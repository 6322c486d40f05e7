"""headgap/look_cuts.py: what shows a dearest cut."""

import time
from itertools import product

from headgap.converters import Converter
from headgap.cuts import Cut, EndlessCut, cost, dearest_cut
from headgap.errors import BadConverter, NoText
from headgap.gaps import Enough, Never
from headgap.look_cuts import shows_cut
from tests.checks import ANYTHING, LINES, NO_CONVERTERS, Checks
from tests.plain_arrays import is_right_cut, left_pairs
from tests.plain_pairs import cost_of_cut, is_right_endless_cut
from tests.plain_sizes import useful_of
from tests.plain_ways import words
from tests.samples import BOTH, EACH, EDGES, EMPTY, FINITE, GREAT, ONLY_EMPTY, PACKS, SIX, SMALL, STUFF, TRAP, six_states
from tests.test_cuts import AHEAD, CHEAP, EVENS, LONG, MODES, UNCUT

# Behind a cut both runs go round rings of six states, which the whole text has begun a step earlier.
TURNS = Converter("a", {("abcdef"[k], "n"): ("y" * (4 if k == 2 else 1), "abcdef"[(k + 1) % 6]) for k in range(6)}
                  | {("d", "m"): ("yyyy", "b")}, {"c": "q", "a": ""})
SOME = [*EDGES, EVENS, MODES, CHEAP, AHEAD, UNCUT, TURNS, *SMALL[:40], *GREAT[:20]]


class Looks(Checks):
    def cut(self, converter, *parts):
        told = is_right_cut(converter, *parts)
        self.assertIs(shows_cut(converter, Cut(*parts)), told, (str(converter), parts))
        return told

    def endless(self, converter, *parts):
        told = is_right_endless_cut(converter, *parts)
        self.assertIs(shows_cut(converter, EndlessCut(*parts)), told, (str(converter), parts))
        return told

    def cuts(self):
        """The converters with a dearest cut, and the parts of their Cuts."""
        for converter in SOME:
            told = dearest_cut(converter) if useful_of(converter) else None
            if told:
                yield converter, told.number, told.heights, told.text, told.at

    def endless_cuts(self):
        """The converters without a dearest cut, and the parts of their EndlessCuts."""
        for converter in [*EACH, *LONG, MODES, TURNS]:
            told = dearest_cut(converter) if useful_of(converter) else None
            if told is not None and not told:
                yield converter, told.text, told.at, told.ring, told.behind


class OfDearest(Looks):
    def test_both_hold_together(self):
        kinds = {None: 0, True: 0, False: 0}
        for converter in [*EACH, *LONG, EVENS, MODES, CHEAP, AHEAD, UNCUT, TURNS]:
            if useful_of(converter):
                told = dearest_cut(converter)
                self.assertIs(shows_cut(converter, told), told is not None)
                kinds[None if told is None else bool(told)] += 1
        self.assertGreater(min(kinds.values()), 10)

    def test_of_another_converter(self):
        found = [(converter, dearest_cut(converter)) for converter in SOME if useful_of(converter)]
        for converter, _ in found[::2]:
            for _, told in found[::3]:
                if isinstance(told, Cut):
                    self.cut(converter, told.number, told.heights, told.text, told.at)
                elif told is not None:
                    self.endless(converter, told.text, told.at, told.ring, told.behind)

    def test_no_cut(self):
        for converter in (UNCUT, LINES, MODES, EVENS):
            self.assertIs(shows_cut(converter, None), False)
        self.equal([shows_cut(UNCUT, Cut(0, {}, "a", 0)), shows_cut(UNCUT, Cut(0, {}, "", 0)), shows_cut(UNCUT, Cut(2, {}, "a", 1)),
                    shows_cut(UNCUT, EndlessCut("a", 1, "", ""))], [False] * 4)


class Cuts(Looks):
    def test_numbers_otherwise(self):
        for converter, number, heights, text, at in self.cuts():
            self.assertTrue(self.cut(converter, number, heights, text, at))
            for other in (number + 1, number - 1, -number, 0, 1, bool(number), str(number), None, [number]):
                self.cut(converter, other, heights, text, at)

    def test_heights_otherwise(self):
        for converter, number, heights, text, at in self.cuts():
            for pair in heights:
                less = {key: heights[key] for key in heights if key != pair}
                self.cut(converter, number, less, text, at)
                for other in (heights[pair] - 1, heights[pair] + 1, 10 ** 30, -10 ** 30, True, None, str(heights[pair])):
                    self.cut(converter, number, {**heights, pair: other}, text, at)

    def test_greater_heights(self):
        # They need not be the least ones, but together they can lie too high.
        for converter, number, heights, text, at in self.cuts():
            for more in (-1, 1, 2):
                self.cut(converter, number, {pair: heights[pair] + more for pair in heights}, text, at)
        self.equal([self.cut(EVENS, 4, {("t", "s"): 2, ("s", "t"): worth, ("s", "s"): 0, ("t", "t"): 0}, "aa", 1)
                    for worth in (1, 2, 3)], [False, True, False])
        self.equal([self.cut(EVENS, 4, {("t", "s"): 2, ("s", "t"): 2, ("s", "s"): worth, ("t", "t"): worth}, "aa", 1)
                    for worth in (-1, 0, 1, 4, 5)], [False, True, True, True, False])

    def test_other_keys_play_no_part(self):
        for converter, number, heights, text, at in self.cuts():
            left, _ = left_pairs(converter)
            for key in [("zz", "s"), None, 0, "s", ("s",), *product(converter.states, converter.states)]:
                if key not in left:
                    for worth in (-10 ** 9, 10 ** 9, None, "x"):
                        self.equal(self.cut(converter, number, {**heights, key: worth}, text, at), True)
        for heights in (None, [], [(("s", "s"), 0)], ("s", "s"), 0, True, ""):
            self.equal(self.cut(LINES, 0, heights, "nn", 1), False)

    def test_texts_and_places_otherwise(self):
        for converter in (LINES, EVENS, CHEAP, AHEAD, FINITE, ONLY_EMPTY, TRAP):
            told = dearest_cut(converter)
            found = 0
            for text in [told.text, *[text for n in range(5) for text in words(converter.letters or "a", n)]]:
                for at in range(-1, len(text) + 2):
                    found += self.cut(converter, told.number, told.heights, text, at)
            self.assertGreater(found, 0)
            for value in (None, True, False, [told.text], list(told.text), told.text + "!", told.text.upper() + " ", 1, "0"):
                self.equal(self.cut(converter, told.number, told.heights, value, told.at), False)
                if type(value) is not int:
                    self.equal(self.cut(converter, told.number, told.heights, told.text, value), False)

    def test_places_count_by_their_kinds(self):
        self.equal([self.cut(LINES, 0, {("s", "s"): 0}, "na", at) for at in (0, 1, 2, 3, -1, True, False, None, "1")],
                   [True] * 3 + [False] * 6)

    def test_texts_of_four_hundred_letters(self):
        self.equal([self.cut(LINES, 0, {("s", "s"): 0}, "n" * n, at) for n, at in ((400, 0), (400, 200), (400, 400), (401, 200))],
                   [True, True, True, False])
        self.equal([self.cut(EVENS, 4, dearest_cut(EVENS).heights, "a" * n, 199) for n in (398, 400, 401, 402)],
                   [True, True, False, False])


class Endless(Looks):
    def test_rings_otherwise(self):
        many = 0
        for converter, text, at, ring, behind in self.endless_cuts():
            many += 1
            self.assertTrue(self.endless(converter, text, at, ring, behind))
            # Doubled, put into the text, and into what is behind.
            self.assertTrue(self.endless(converter, text, at, ring * 2, behind))
            self.assertTrue(self.endless(converter, text + ring, at, ring, ring + behind))
            for k in range(len(ring)):
                # Turned, shortened, begun elsewhere.
                self.endless(converter, text, at, ring[k:] + ring[:k], behind)
                self.endless(converter, text, at, ring[:k], behind)
                self.endless(converter, text, at, ring[k:], behind)
                self.endless(converter, text, at, ring[:k] + ring[k + 1:], behind)
                self.endless(converter, text + ring[:k], at, ring, behind)
                self.assertTrue(self.endless(converter, text + ring[:k], at, ring[k:] + ring[:k], ring[k:] + behind))
            self.endless(converter, text, at, ring[::-1], behind)
            self.endless(converter, text + ring, at + len(ring), ring, behind)
            self.endless(converter, ring, at, text, behind)
            self.endless(converter, text, at, behind, ring)
        self.assertGreater(many, 30)

    def test_places_otherwise(self):
        for converter, text, at, ring, behind in self.endless_cuts():
            for other in (*range(-1, len(text) + 2), len(text + ring), bool(at), None, str(at), [at], 10 ** 30):
                self.endless(converter, text, other, ring, behind)

    def test_all_of_few_letters(self):
        for converter, most in ((MODES, 3), (BOTH, 2), (PACKS, 3), (LINES, 2), (STUFF, 2)):
            parts = [text for n in range(most) for text in words(converter.letters[:2], n)]
            found = 0
            for text, ring, behind in product(parts, parts, parts[:4]):
                for at in range(len(text) + 2):
                    found += self.endless(converter, text, at, ring, behind)
            self.equal(found > 0, converter == MODES)

    def test_wrong_parts(self):
        for converter, text, at, ring, behind in list(self.endless_cuts())[:12]:
            for value in (None, 1, True, [ring], list(ring), ring.upper(), ring + " ", "!"):
                self.equal([self.endless(converter, value, at, ring, behind), self.endless(converter, text, at, value, behind),
                            self.endless(converter, text, at, ring, value), self.endless(converter, text, at, "", behind)],
                           [False] * 4)

    def test_long_texts(self):
        # Each of the three can have 400 letters, also all at once.
        self.equal([self.endless(MODES, "b" + "a" * n, 1, "a", "") for n in (0, 45, 398, 399, 400)], [True] * 4 + [False])
        self.equal([self.endless(MODES, "b", 1, "a" * n, "") for n in (45, 46, 400, 401)], [True, True, True, False])
        self.equal([self.endless(MODES, "b", 1, "a", "a" * n) for n in (46, 400, 401)], [True, True, False])
        self.equal([self.endless(MODES, "b" + "a" * 399, at, "a" * 400, "a" * 400) for at in (0, 1, 2, 399, 400, 401)],
                   [False, True, True, True, True, False])
        self.equal([self.endless(MODES, "a" * 399 + "b", 400, "a" * n, "a" * 400) for n in (399, 400, 401)], [True, True, False])

    def test_the_ring_must_write_more_in_the_second_piece(self):
        cheaper = Converter.read("@s s:a>a>s s:b>>t t:a>aa>t s$ t$")
        self.equal([self.endless(cheaper, "b", 1, "a", ""), self.endless(LINES, "n", 1, "n", "")], [False, False])

    def test_the_first_piece_must_be_taken(self):
        odd = Converter.read("@s s:a>aa>s s:b>>t s:c>>s t:c>>u u:a>a>u s$ u$")
        self.equal([self.endless(odd, "bc", at, "a", "") for at in range(4)], [False, False, True, False])


class Kinds(Looks):
    def test_the_other_paper(self):
        self.equal([shows_cut(LINES, EndlessCut("n", 1, "n", "")), shows_cut(MODES, Cut(3, {("s", "s"): 0}, "baaa", 1)),
                    shows_cut(LINES, Enough(0, {("s", "s"): 0}, "n")), shows_cut(MODES, Never("b", "a", ""))], [False] * 4)

    def test_other_values(self):
        right = Cut(0, {("s", "s"): 0}, "a", 1)
        for value in ANYTHING:
            self.equal(shows_cut(LINES, value), value == right)
            self.equal(shows_cut(MODES, value), False)
            self.equal(shows_cut(UNCUT, value), False)
            for other in ANYTHING[::7]:
                self.cut(LINES, value, {("s", "s"): 0}, "a", other)
                self.cut(LINES, 0, value, "a", 1)
                self.cut(LINES, 0, {("s", "s"): value}, "a", 1)
                self.cut(LINES, 0, {("s", "s"): 0}, value, other)
                self.endless(MODES, value, 1, "a", other)
                self.endless(MODES, "b", value, "a", "")
                self.endless(MODES, "b", 1, value, other)
        self.equal([shows_cut(value=right, converter=LINES), shows_cut(LINES, (0, {("s", "s"): 0}, "a", 1))], [True, False])

    def test_wrong_values(self):
        for value in ANYTHING:
            for converter in EMPTY:
                self.refused(NoText, [None], shows_cut, converter, value)
        for value in NO_CONVERTERS:
            self.refused(BadConverter, ["converter"], shows_cut, value, Cut(0, {("s", "s"): 0}, "a", 1))
            self.refused(BadConverter, ["converter"], shows_cut, value, value)

    def test_nothing_changes(self):
        for converter in (EVENS, MODES, SIX):
            told = dearest_cut(converter)
            before = (str(converter), dict(vars(told)), dict(converter.steps), dict(converter.tails))
            shows_cut(converter, told)
            self.equal((str(converter), vars(told), converter.steps, converter.tails), before)

    def test_costs_that_it_shows(self):
        for converter, number, heights, text, at in self.cuts():
            self.equal([cost(converter, text, at), cost_of_cut(converter, text, at)], [number, number])

    def test_time(self):
        begun = time.perf_counter()
        for converter in (SIX, MODES, *six_states(18, 21)):
            if useful_of(converter):
                shows_cut(converter, dearest_cut(converter))
        self.assertLess(time.perf_counter() - begun, 1)
