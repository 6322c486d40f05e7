"""headgap/compare.py: differences of two converters, what shows them, and texts that tell two apart."""

import time
from itertools import product

from headgap.compare import alike_in_length, apart, difference, never_longer, shows_difference
from headgap.converters import Converter
from headgap.errors import BadConverter
from headgap.gaps import Enough, Never
from tests.checks import ANYTHING, LINES, NO_CONVERTERS, Checks
from tests.plain_pairs import (
    difference_at, first_apart, greatest_differences, is_right_enough, is_right_never, unlike, useful_pairs)
from tests.plain_sizes import useful_of
from tests.plain_ways import some_converters, words
from tests.samples import EDGES, EMPTY, FINITE, GREAT, JUST_TAIL, NO_TAIL, ODDS, ONLY_EMPTY, PERCENT, SIX, STUFF, six_states

PLAIN = Converter("s", {("s", "a"): ("a", "s"), ("s", "n"): ("n", "s")}, {"s": "zz"})
SMALL = some_converters(26, 3, 2, seed=5)
EACH = [*SMALL, *EDGES[:14], PLAIN, LINES]
PAIRS = [*product(SMALL, SMALL), *product(EDGES[:14], [*EDGES[:14], PLAIN, LINES]), *zip(GREAT, GREAT[1:]),
         *zip(GREAT, GREAT), *zip(six_states(150, 31), six_states(150, 32))]


def ring_of(many, letters="y", end=0, tail=""):
    """A ring of so many states, taken at one of them; its steps write these letters, one behind the other."""
    names = "abcdef"[:many]
    steps = {(names[k], "n"): (letters[k % len(letters)], names[(k + 1) % many]) for k in range(many)}
    return Converter("a", steps, {names[end]: tail})


def texts_of(one, other, most):
    """All texts of at most so many letters that one of both could take."""
    letters = sorted({*one.letters, *other.letters})[:3]
    return [text for n in range(most + 1) for text in words(letters or "a", n)]


class Looks(Checks):
    def enough(self, one, other, *parts):
        told = is_right_enough(one, other, *parts)
        self.assertIs(shows_difference(one, other, Enough(*parts)), told, (str(one), str(other), parts))
        return told

    def never(self, one, other, *parts):
        told = is_right_never(one, other, *parts)
        self.assertIs(shows_difference(one, other, Never(*parts)), told, (str(one), str(other), parts))
        return told


class Differences(Looks):
    def check(self, one, other):
        """What difference tells is right; tells its kind."""
        told = difference(one, other)
        self.assertIs(shows_difference(one, other, told), True)
        self.equal(told is None, len(useful_pairs(one, other)) == 0)
        if told is None:
            return None
        if told:
            self.assertIs(type(told), Enough)
            self.assertTrue(is_right_enough(one, other, told.number, told.heights, told.text), (str(one), str(other)))
            self.equal(sorted(told.heights), sorted(useful_pairs(one, other)))
        else:
            self.assertIs(type(told), Never)
            self.assertTrue(is_right_never(one, other, told.ahead, told.ring, told.behind), (str(one), str(other)))
        self.equal(difference(one, other) == told, True)
        return bool(told)

    def test_what_it_tells(self):
        kinds = {None: 0, True: 0, False: 0}
        for one, other in PAIRS:
            kinds[self.check(one, other)] += 1
        self.assertGreater(min(kinds.values()), 100)

    def test_of_all_texts(self):
        for one, other in product(EACH, EACH):
            told = difference(one, other)
            found = [difference_at(one, other, text) for text in texts_of(one, other, 3)]
            found = [more for more in found if more is not None]
            if told is None:
                self.equal(found, [])
            elif told and found:
                self.assertLessEqual(max(found), told.number)
                if len(told.text) <= 3 and set(told.text) <= set(sorted({*one.letters, *other.letters})[:3]):
                    self.equal(max(found), told.number)

    def test_from_length_to_length(self):
        for one, other in PAIRS[::3]:
            told = difference(one, other)
            found = [more for more in greatest_differences(one, other, 90) if more is not None]
            if told is None:
                self.equal(found, [])
            elif told:
                self.equal(max(found), told.number)
            else:
                self.assertGreater(max(found), 1)

    def test_negative_ones(self):
        longer = PLAIN.with_tail("s", "zzzz").with_step("s", "a", "aaaa", "s")
        self.equal([difference(JUST_TAIL.narrowed(), longer).number, difference(LINES.narrowed("a"), longer).number,
                    difference(PLAIN.narrowed("a"), longer).number], [0, -4, -2])
        self.equal([bool(difference(longer, LINES)), bool(difference(LINES, longer))], [False, False])

    def test_few(self):
        self.equal([difference(PLAIN, LINES).number, difference(LINES, LINES).number, difference(PLAIN, PLAIN).heights],
                   [2, 0, {("s", "s"): 0}])
        self.equal(difference(LINES, PLAIN) == Never("", "n", ""), True)
        self.equal([difference(one, other) for one, other in ((NO_TAIL, LINES), (LINES, NO_TAIL), (NO_TAIL, NO_TAIL), (ODDS, ONLY_EMPTY))],
                   [None] * 4)
        self.equal([difference(JUST_TAIL, ONLY_EMPTY).number, difference(ONLY_EMPTY, JUST_TAIL).number], [2, -2])
        self.equal(difference(other=LINES, one=PLAIN).number, 2)

    def test_heights_of_the_useful_pairs_alone(self):
        # From u no text is taken, and t is not come to with s.
        one = Converter.read("@s s:a>xxxx>u s:b>>t t:b>>s s$")
        other = Converter.read("@s s:a>>s s:b>>t t:b>x>s s$")
        self.equal(difference(one, other).heights, {("s", "s"): 0, ("t", "t"): 0})

    def test_rings_of_five_and_six_states(self):
        # Both take the texts of 29 letters, of 59, and so on alone.
        five, six = ring_of(5, "y", 4), ring_of(6, "y", 5)
        self.equal([difference(five, six).number, difference(five, six).text, len(difference(five, six).heights)], [0, "n" * 29, 30])
        self.equal([self.check(five, six), self.check(six, five)], [True, True])
        more = ring_of(6, ("yy", "y", "y", "y", "y", "y"), 5)
        self.equal([self.check(more, five), self.check(five, more)], [False, True])
        self.equal([difference(five, more).number, difference(five, more).text, len(difference(more, five).ring)], [-5, "n" * 29, 30])
        # One writes six letters more in thirty, the other five: apart by one behind each round.
        slow = ring_of(5, ("yy", "y", "y", "y", "y"), 4)
        self.equal([self.check(slow, more), self.check(more, slow)], [False, True])
        self.equal([difference(more, slow).number, [difference_at(slow, more, "n" * n) for n in (29, 59, 89)]], [-1, [1, 2, 3]])
        # A beginning that never comes to the same place as the end: no text is taken by both.
        self.equal([difference(ring_of(2, "y", 0), ring_of(4, "y", 3)), difference(ring_of(6, "y", 1), ring_of(4, "y", 2))], [None, None])

    def test_a_ring_far_behind(self):
        late = Converter.read("@a a:n>y>b b:n>y>c c:n>y>d d:n>y>e e:m>yy>e e:n>y>f f:n>y>a f$")
        flat = ring_of(1).with_step("a", "m", "y", "a")
        self.equal([self.check(late, flat), self.check(flat, late)], [False, True])
        told = difference(late, flat)
        self.equal((told.ahead, told.ring, told.behind), ("nnnn", "m", "n"))

    def test_wrong_values(self):
        for work in (difference, never_longer, apart, alike_in_length):
            for value in NO_CONVERTERS:
                self.refused(BadConverter, ["one"], work, value, LINES)
                self.refused(BadConverter, ["other"], work, LINES, value)
                self.refused(BadConverter, ["one"], work, value, value)
                self.refused(BadConverter, ["other"], work, other=value, one=NO_TAIL)

    def test_nothing_changes(self):
        for one, other in ((PLAIN, LINES), (LINES, PLAIN), (SIX, STUFF), (STUFF, SIX)):
            before = [str(one), str(other), dict(one.steps), dict(other.steps), dict(one.tails), dict(other.tails)]
            told = difference(one, other)
            if told:
                told.heights.clear()
                self.equal(difference(one, other) == told, False)
            shows_difference(one, other, difference(one, other))
            apart(one, other)
            self.equal([str(one), str(other), one.steps, other.steps, one.tails, other.tails], before)
        value = Enough(2, {("s", "s"): 0, "x": [1]}, "")
        shows_difference(PLAIN, LINES, value)
        self.equal(value.heights, {("s", "s"): 0, "x": [1]})


class Shows(Looks):
    def enoughs(self):
        for one, other in [*PAIRS[::23], (PLAIN, LINES), (ring_of(5, "y", 4), ring_of(6, "y", 5)), (JUST_TAIL, ONLY_EMPTY)]:
            told = difference(one, other)
            if told:
                yield one, other, told.number, told.heights, told.text

    def nevers(self):
        for one, other in [*PAIRS[::4], (LINES, PLAIN)]:
            told = difference(one, other)
            if told is not None and not told:
                yield one, other, told.ahead, told.ring, told.behind

    def test_numbers_otherwise(self):
        for one, other, number, heights, text in self.enoughs():
            self.assertTrue(self.enough(one, other, number, heights, text))
            for value in (number + 1, number - 1, -number, 0, 1, bool(number), str(number), None, [number]):
                self.enough(one, other, value, heights, text)

    def test_heights_otherwise(self):
        for one, other, number, heights, text in self.enoughs():
            for pair in heights:
                for value in (heights[pair] - 1, heights[pair] + 1, 10 ** 30, -10 ** 30, True, None, str(heights[pair])):
                    self.enough(one, other, number, {**heights, pair: value}, text)
                self.enough(one, other, number, {key: heights[key] for key in heights if key != pair}, text)
            for more in (-1, 1):
                self.enough(one, other, number, {key: heights[key] + more for key in heights}, text)
            for key in ("zz", ("zz", "s"), ("s",), None, 0, ("s", "s", "s")):
                for value in (-10 ** 9, 10 ** 9, None):
                    self.equal(self.enough(one, other, number, {**heights, key: value}, text), True)
            for value in (None, [], list(heights), list(heights.items()), 0, True, ()):
                self.equal(self.enough(one, other, number, value, text), False)

    def test_greater_heights(self):
        # Two letters of the tail of plain are left, and each n takes one back.
        self.equal([self.enough(PLAIN, LINES, 2, {("s", "s"): worth}, "") for worth in (-1, 0, 1)], [False, True, False])
        slow = Converter.read("@s s:a>>t t:a>y>t s$yyy t$")
        flat = Converter.read("@s s:a>y>s s$")
        self.equal(difference(slow, flat).number, 3)
        for low, high in product(range(-2, 5), range(-3, 5)):
            self.equal(self.enough(slow, flat, 3, {("s", "s"): low, ("t", "s"): high}, ""), low == 0 and -1 <= high <= 3)

    def test_texts_otherwise(self):
        for one, other, number, heights, text in self.enoughs():
            for value in [text + "a", text[1:], text[::-1], "", "n", "nn", *texts_of(one, other, 2)]:
                self.enough(one, other, number, heights, value)
            for value in (None, 0, True, text + "!", text + " ", [text], list(text), text.upper() + "\n"):
                self.equal(self.enough(one, other, number, heights, value), False)

    def test_texts_of_four_hundred_letters(self):
        self.equal([self.enough(LINES, LINES, 0, {("s", "s"): 0}, "n" * n) for n in (0, 400, 401)], [True, True, False])
        self.equal([self.enough(PLAIN, LINES, 2, {("s", "s"): 0}, "a" * n) for n in (399, 400, 401)], [True, True, False])
        # Of a Never each text can have so many, also all three at once.
        for many in product((1, 399, 400, 401), repeat=3):
            self.equal(self.never(LINES, PLAIN, "a" * many[0], "n" * many[1], "n" * many[2]), max(many) <= 400)

    def test_rings_otherwise(self):
        many = 0
        for one, other, ahead, ring, behind in self.nevers():
            many += 1
            self.assertTrue(self.never(one, other, ahead, ring, behind))
            self.assertTrue(self.never(one, other, ahead, ring * 2, behind))
            self.assertTrue(self.never(one, other, ahead + ring, ring, ring + behind))
            self.never(other, one, ahead, ring, behind)
            for k in range(len(ring)):
                self.never(one, other, ahead, ring[k:] + ring[:k], behind)
                self.never(one, other, ahead, ring[:k], behind)
                self.never(one, other, ahead, ring[k:], behind)
                self.never(one, other, ahead, ring[:k] + ring[k + 1:], behind)
                self.never(one, other, ahead + ring[:k], ring, behind)
                self.assertTrue(self.never(one, other, ahead + ring[:k], ring[k:] + ring[:k], ring[k:] + behind))
            self.never(one, other, ahead, ring[::-1], behind)
            self.never(one, other, ring, ahead, behind)
            self.never(one, other, ahead, behind, ring)
            for value in (None, 1, True, "", [ring], list(ring), ring.upper(), ring + " "):
                for parts in ((value, ring, behind), (ahead, value, behind), (ahead, ring, value)):
                    self.never(one, other, *parts)
        self.assertGreater(many, 20)

    def test_all_of_few_letters(self):
        for one, other in [(LINES, PLAIN), (PLAIN, LINES), *zip(SMALL, SMALL[3:])]:
            parts = texts_of(one, other, 2)
            for ahead, ring, behind in product(parts[:5], parts, parts[:4]):
                self.never(one, other, ahead, ring, behind)

    def test_none(self):
        for one, other in PAIRS:
            self.assertIs(shows_difference(one, other, None), len(useful_pairs(one, other)) == 0)
        for one, other in ((NO_TAIL, LINES), (ring_of(2), ring_of(2, "y", 1))):
            for value in [*ANYTHING, Enough(0, {}, ""), Enough(0, {}, "n"), Never("", "n", ""), Never("", "", "")]:
                self.assertIs(shows_difference(one, other, value), value is None)

    def test_other_values(self):
        for value in ANYTHING:
            self.equal(shows_difference(PLAIN, LINES, value), False)
            self.equal(shows_difference(LINES, PLAIN, value), value == Never("", "n", ""))
            for other in ANYTHING[::6]:
                self.enough(PLAIN, LINES, value, {("s", "s"): 0}, "")
                self.enough(PLAIN, LINES, 2, value, other)
                self.enough(PLAIN, LINES, 2, {("s", "s"): value}, "")
                self.enough(PLAIN, LINES, 2, {("s", "s"): 0}, value)
                self.never(LINES, PLAIN, value, "n", other)
                self.never(LINES, PLAIN, other, value, "")
        self.equal(shows_difference(value=Enough(2, {("s", "s"): 0}, ""), other=LINES, one=PLAIN), True)

    def test_wrong_values(self):
        for value in NO_CONVERTERS:
            self.refused(BadConverter, ["one"], shows_difference, value, LINES, None)
            self.refused(BadConverter, ["other"], shows_difference, LINES, value, value)
            self.refused(BadConverter, ["one"], shows_difference, value, value, value)


class NeverLonger(Checks):
    def test_of_all_texts(self):
        for one, other in PAIRS[::2]:
            found = [more for more in greatest_differences(one, other, 60) if more is not None]
            self.assertIs(never_longer(one, other), all(more <= 0 for more in found), (str(one), str(other)))

    def test_few(self):
        self.equal([never_longer(LINES, PLAIN), never_longer(PLAIN, LINES), never_longer(LINES, LINES), never_longer(NO_TAIL, LINES),
                    never_longer(ODDS, ONLY_EMPTY), never_longer(ONLY_EMPTY, JUST_TAIL), never_longer(JUST_TAIL, ONLY_EMPTY)],
                   [False, False, True, True, True, True, False])
        # Longer behind thirty letters alone.
        six, five = ring_of(6, "y", 5, "y"), ring_of(5, "y", 4)
        self.equal([never_longer(six, five), never_longer(five, six)], [False, True])


class Apart(Checks):
    def check(self, one, other, most):
        told = apart(one, other)
        self.equal(told, first_apart(one, other, most))
        self.assertIs(alike_in_length(one, other), told is None)
        return told

    def test_of_all_texts(self):
        for one, other in product(EACH, EACH):
            told = apart(one, other)
            letters = sorted({*one.letters, *other.letters})
            found = [text for n in range(4) for text in words(letters, n) if unlike(one, other, text)]
            if found or (told is not None and len(told) < 4):
                self.equal(told, found[0] if found else None)
            self.equal(alike_in_length(one, one), True)

    def test_of_longer_texts(self):
        many = {}
        for one, other in PAIRS[::5]:
            told = self.check(one, other, 9)
            many[told is None] = many.get(told is None, 0) + 1
        self.assertGreater(min(many.values()), 9)

    def test_near_ones(self):
        # One step or tail otherwise: texts of some letters lead there.
        many = {}
        for converter in [*GREAT[:40], *six_states(60, 33)]:
            for (state, letter), (answer, to) in list(converter.steps.items())[::3]:
                near = converter.with_step(state, letter, "y" * ((len(answer) + 1) % 5), to)
                told = self.check(converter, near, 9)
                many[told and len(told)] = many.get(told and len(told), 0) + 1
            for state in converter.tails:
                self.check(converter, converter.without_tail(state), 9)
                self.check(converter.with_tail(state, converter.tails[state][:-1] + "yy"[:4 - len(converter.tails[state])]), converter, 9)
        self.assertGreater(len(many), 5)

    def test_late_ones(self):
        # They tell one another apart behind ten letters only: rings of five and six states, taken but for one each.
        five = Converter("a", ring_of(5).steps, {name: "" for name in "abcde"})
        six = Converter("a", ring_of(6).steps, {name: "" for name in "abcdef"})
        self.equal([self.check(five, six, 70), self.check(five, six.without_tail("f"), 70), self.check(five.without_tail("e"), six, 70)],
                   [None, "n" * 5, "n" * 4])
        self.equal([self.check(five, six.with_tail("f", "q"), 70), self.check(six.with_step("f", "n", "", "a"), five, 70)], ["n" * 5, "n" * 6])
        # Unlike behind nine letters only: but for one each they are taken, too.
        one, other = five.without_tail("e"), six.without_tail("e")
        self.equal([self.check(one, other, 70), self.check(other, one, 70)], ["n" * 9] * 2)
        one, other = five.with_tail("e", "yyyy"), six.with_tail("e", "yyyy")
        self.equal([self.check(one, other, 70), self.check(other, one, 70)], ["n" * 9] * 2)
        # Six states that come to five, and for ever do so.
        other = Converter("a", {**six.steps, ("f", "n"): ("y", "b")}, {**six.tails, "e": "yyyy"})
        self.equal([self.check(five.with_tail("e", "yyyy"), other, 70), self.check(other, five, 70)], [None, "n" * 4])

    def test_letters_counted_elsewhere(self):
        early = Converter.read("@s s:a>yyyy>t t:a>>u u:a>>s s$ t$ u$")
        late = Converter.read("@s s:a>>t t:a>yy>u u:a>yy>s s$ t$yyyy u$yy")
        self.equal([self.check(early, late, 20), self.check(late, early, 20), alike_in_length(early, late)], [None, None, True])
        self.equal([self.check(early, late.with_tail("u", "y"), 20), self.check(late.with_step("u", "a", "y", "s"), early, 20)], ["aa", "aaa"])

    def test_letters_of_one_alone(self):
        for one, other, text in ((LINES, LINES.narrowed("a"), "n"), (LINES.narrowed("n"), LINES, "a"), (LINES, PERCENT, "a"),
                                 (PERCENT, LINES, "a"), (NO_TAIL, LINES, ""), (LINES, NO_TAIL, ""), (NO_TAIL, EMPTY[1], "ba")):
            self.equal(self.check(one, other, 6), text if useful_of(one) or useful_of(other) else None)
        # Letters without a use tell nothing apart.
        self.equal(self.check(LINES, LINES.with_step("s", "z", "zzzz", "t").with_step("t", "q", "", "t"), 6), None)
        self.equal(self.check(FINITE, FINITE.with_step("x", "a", "", "u").with_step("x", "c", "", "x"), 6), "bba")

    def test_the_first_one_of_the_shortest(self):
        wide = Converter.of("s", s={letter: ("y", "s") for letter in "bdfh"} | {"": ""})
        self.equal([apart(wide, wide.with_step("s", "f", "", "s")), apart(wide.with_step("s", "h", "", "t"), wide.without_step("s", "d")),
                    apart(wide, Converter.of("s", s={letter: ("y", "s") for letter in "aceg"} | {"": ""})), apart(wide, wide)],
                   ["f", "d", "a", None])
        self.equal(apart(other=LINES, one=PLAIN), "")

    def test_eight_letters(self):
        one = Converter.of("s", s={letter: ("y", "s") for letter in "aceg"} | {"": ""})
        other = Converter.of("s", s={letter: ("y", "t") for letter in "bdfh"} | {"": ""}, t={letter: ("y", "s") for letter in "bdfh"})
        self.equal([self.check(one, other, 4), self.check(other, one, 4), self.check(one.without_tail("s"), other.without_tail("s"), 4)],
                   ["a", "a", None])

    def test_time(self):
        begun = time.perf_counter()
        for one, other in [(SIX, STUFF), (STUFF, SIX), (SIX, SIX), *zip(GREAT[:17], GREAT[1:])]:
            difference(one, other)
            shows_difference(one, other, difference(one, other))
            never_longer(one, other)
            apart(one, other)
            alike_in_length(other, one)
        self.assertLess(time.perf_counter() - begun, 1)
