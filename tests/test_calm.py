"""headgap/calm.py: sets of letters with which a converter needs little room ahead."""

import time
from itertools import combinations

from headgap.calm import blamed, calm_letters
from headgap.converters import Converter
from headgap.errors import BadConverter, BadNumber
from headgap.gaps import gap
from tests.checks import LINES, NO_CONVERTERS, NO_INTEGERS, Checks
from tests.plain_sizes import is_run_over, rows
from tests.plain_ways import taken
from tests.samples import EACH, EDGES, EMPTY, FINITE, GREAT, JUST_TAIL, NO_TAIL, ODDS, ONLY_EMPTY, PERCENT, SIX, SMALL, STUFF, six_states

# Each letter alone is calm, a and b together are not: b leads to where a writes more.
BOTH = Converter.read("@s s:a>x>s s:b>x>t s:c>xx>u t:a>xx>t t:b>x>s u:c>>s s$ t$ u$")
WIDE = six_states(60, 51)


def greatest_gap(converter, most):
    """The greatest gap of the taken texts of at most so many letters, by the equations; None without a text."""
    values = [row.get(converter.start) for row in rows(converter, "gap", most)]
    return max([value for value in values if value is not None], default=None)


def is_calm(converter, letters, most):
    """Whether a set of letters is calm: a gap that does not come within 50 letters does not come at all, or slowly."""
    told = greatest_gap(converter.narrowed(*letters), 50)
    return told is None or told <= most


def sets_of(converter):
    return [part for n in range(5) for part in combinations(converter.letters, n)]


class Calm(Checks):
    def check(self, converter, most):
        sets = sets_of(converter)
        calm = [part for part in sets if is_calm(converter, part, most)]
        greatest = [part for part in calm if not any(set(part) < set(other) for other in calm)]
        wild = [part for part in sets if part not in calm]
        least = [part for part in wild if not any(set(other) < set(part) for other in wild)]
        self.equal(list(calm_letters(converter, most)), sorted(greatest))
        self.equal(blamed(converter, most), tuple(sorted(least)))
        return len(greatest), len(least)

    def test_by_the_definition(self):
        kinds = {}
        for converter in [*EACH, BOTH, *WIDE]:
            for most in (0, 1, 3, 6):
                told = self.check(converter, most)
                kinds[told] = kinds.get(told, 0) + 1
        self.assertGreater(len(kinds), 7)

    def test_of_all_texts(self):
        for converter in [*SMALL[:70], *EDGES[:12]]:
            for most in (0, 1, 2):
                bad = [frozenset(text) for n in range(5) for text in taken(converter, n) if is_run_over(converter, text, most)]
                for part in calm_letters(converter, most):
                    self.assertFalse(any(text <= set(part) for text in bad))
                for part in blamed(converter, most):
                    self.assertIsNot(bool(gap(converter.narrowed(*part))) and gap(converter.narrowed(*part)).number <= most, True)
                # What goes wrong has a blamed set within.
                self.assertTrue(all(any(set(part) <= text for part in blamed(converter, most)) for text in bad))

    def test_a_part_of_a_calm_set_is_calm(self):
        for converter in [*GREAT[:30], *WIDE, BOTH]:
            calm, wild = list(calm_letters(converter, 2)), blamed(converter, 2)
            for part in sets_of(converter):
                within = any(set(part) <= set(other) for other in calm)
                self.equal(within, not any(set(other) <= set(part) for other in wild))
                self.equal(within, is_calm(converter, part, 2))

    def test_few(self):
        self.equal([list(calm_letters(LINES, most)) for most in (0, 3, 10 ** 30)], [[("a",)]] * 3)
        self.equal([blamed(LINES, most) for most in (0, 10 ** 30)], [(("n",),)] * 2)
        self.equal([list(calm_letters(BOTH, most)) for most in (0, 1, 2)], [[("a",), ("b",)], [("a", "c"), ("b", "c")], [("a", "c"), ("b", "c")]])
        self.equal([blamed(BOTH, most) for most in (0, 1, 10 ** 30)], [(("a", "b"), ("c",)), (("a", "b"),), (("a", "b"),)])
        self.equal([list(calm_letters(STUFF, 0)), blamed(STUFF, 0)], [[("b",)], (("a",),)])
        self.equal([list(calm_letters(most=0, converter=PERCENT)), blamed(most=0, converter=PERCENT)], [[("f", "p", "x")], ()])

    def test_all_or_none(self):
        for converter in (NO_TAIL, EMPTY[1], ONLY_EMPTY, JUST_TAIL, FINITE):
            self.equal(list(calm_letters(converter, 10 ** 30)), [converter.letters])
            self.equal(blamed(converter, 10 ** 30), ())
        self.equal([list(calm_letters(JUST_TAIL, 0)), list(calm_letters(LINES.narrowed("n"), 0)), list(calm_letters(LINES.narrowed(), 0))],
                   [[()], [()], [()]])
        four = Converter.of("s", s={letter: ("yy", "s") for letter in "dcba"} | {"": ""})
        self.equal([list(calm_letters(four, 9)), blamed(four, 9)], [[()], (("a",), ("b",), ("c",), ("d",))])

    def test_sets_that_take_no_text(self):
        # Without b the state t has no way to a tail; with a, b and c alone the ring of a can be repeated.
        trap = Converter.read("@s s:a>x>t t:a>xx>t t:b>>u t:c>x>u u$")
        self.equal([list(calm_letters(trap, 5)), blamed(trap, 5)], [[("a",), ("b", "c")], (("a", "b"), ("a", "c"))])
        self.equal([list(calm_letters(ODDS, 0)), list(calm_letters(ODDS, 1)), blamed(ODDS, 0)], [[()], [("a",)], (("a",),)])

    def test_letters_of_no_use_are_calm(self):
        self.equal(list(calm_letters(LINES.with_step("t", "z", "yyyy", "s"), 0)), [("a", "z")])

    def test_the_number_counts(self):
        self.equal([gap(ODDS).number, gap(BOTH.narrowed("c")).number], [1, 1])
        for most in (0, 1, 2):
            self.equal(blamed(ODDS, most), (("a",),) if most < 1 else ())

    def test_wrong_values(self):
        for value in NO_CONVERTERS:
            self.refused_first(BadConverter, ["converter"], [lambda: calm_letters(value, 0), lambda: calm_letters(value, value),
                                                            lambda: calm_letters(most=-1, converter=value)])
            self.refused(BadConverter, ["converter"], blamed, value, 0)
            self.refused(BadConverter, ["converter"], blamed, value, value)
        for value in [*NO_INTEGERS, -1, -10 ** 30]:
            for converter in (LINES, NO_TAIL, SIX):
                self.refused_first(BadNumber, [value], [lambda: calm_letters(converter, value)])
                self.refused(BadNumber, [value], blamed, converter, value)

    def test_nothing_changes(self):
        before = (str(SIX), dict(SIX.steps), dict(SIX.tails))
        self.equal(list(calm_letters(SIX, 2)), list(calm_letters(SIX, 2)))
        blamed(SIX, 2)
        self.equal((str(SIX), SIX.steps, SIX.tails), before)

    def test_time(self):
        begun = time.perf_counter()
        for converter in [SIX, STUFF, *GREAT[:8]]:
            list(calm_letters(converter, 2))
            blamed(converter, 2)
        self.assertLess(time.perf_counter() - begun, 1)
