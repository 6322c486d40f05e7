"""headgap/cuts.py: texts cut in pieces, what it costs, and the dearest cut."""

import time
from itertools import combinations_with_replacement, product

from headgap.converters import Converter
from headgap.cuts import Cut, EndlessCut, cost, dearest_cut, pieces
from headgap.errors import BadConverter, BadNumber, BadWord, NoStep, NoTail, NoText
from headgap.papers import Verdict
from tests.checks import ANYTHING, LINES, NO_CONVERTERS, NO_INTEGERS, NO_TEXTS, Checks
from tests.plain_arrays import cost_by_words, is_right_cut, is_right_endless_cut, left_pairs
from tests.plain_sizes import useful_of
from tests.plain_ways import taken, walk, words
from tests.samples import (
    BOTH, EACH, EDGES, EMPTY, FINITE, JUST_TAIL, NO_TAIL, ODDS, ONLY_EMPTY, PACKS, PERCENT, SIX, SMALL, STUFF, TRAP,
    six_states)

EVENS = Converter("s", {("s", "a"): ("x", "t"), ("t", "a"): ("x", "s")}, {"s": "", "t": "yy"})
MODES = Converter("s", {("s", "b"): ("", "t"), ("s", "a"): ("aa", "s"), ("t", "a"): ("a", "t")}, {"s": "", "t": ""})
# Each cut saves two letters, or three.
CHEAP = Converter.read("@s s:a>xx>t t:a>xxxx>t s$xxx t$")
# A text can be cut, but only ahead of its first letter: no other state with a tail is followed by one.
AHEAD = Converter.read("@s s:a>xx>t t:b>>u s$p u$q")
# No text can be cut: the start has no tail, and behind the tail nothing that is taken follows.
UNCUT = Converter.read("@s s:a>x>t t$yy")
LONG = six_states(120, 21)


class Pieces(Checks):
    def outcome(self, converter, text, places):
        """The answers to the pieces, or the class and the fields of the error of the first one that is not taken."""
        found = []
        begin = 0
        for end in (*places, len(text)):
            part = text[begin:end]
            state = converter.start
            for at, letter in enumerate(part):
                if (state, letter) not in converter.steps:
                    return NoStep, (begin + at, state)
                state = converter.steps[state, letter][1]
            if state not in converter.tails:
                return NoTail, (state,)
            found.append(converter(part))
            begin = end
        return None, tuple(found)

    def test_of_all_texts(self):
        kinds = {}
        for converter in [*SMALL[:30], *EDGES, EVENS, MODES, CHEAP, AHEAD, UNCUT]:
            for text in words(converter.letters[:2], 3):
                for many in range(4):
                    for places in combinations_with_replacement(range(4), many):
                        error, told = self.outcome(converter, text, places)
                        kinds[error] = kinds.get(error, 0) + 1
                        if error is None:
                            self.equal(pieces(converter, text, *places), told)
                        else:
                            self.refused(error, told, pieces, converter, text, *places)
        self.assertGreater(min(kinds.values()), 100)

    def test_few(self):
        self.equal([pieces(EVENS, "aaa"), pieces(EVENS, "aaa", 0), pieces(EVENS, "aaa", 3), pieces(EVENS, "aaa", 0, 0, 3, 3)],
                   [("xxxyy",), ("", "xxxyy"), ("xxxyy", ""), ("", "", "xxxyy", "", "")])
        self.equal([pieces(EVENS, "aaa", 1, 2), pieces(EVENS, "", 0, 0), pieces(ODDS, "aa", 1)],
                   [("xyy",) * 3, ("", "", ""), ("bbc", "bbc")])

    def test_the_whole_text_need_not_be_taken(self):
        self.refused(NoTail, ["s"], ODDS, "aa")
        self.equal(pieces(ODDS, "aa", 1), ("bbc", "bbc"))
        self.refused(NoStep, [2, "s"], MODES, "aac")
        self.refused(NoStep, [2, "s"], pieces, MODES, "aac", 1)

    def test_errors_of_the_first_piece(self):
        self.refused(NoTail, ["s"], pieces, ODDS, "aaaxa", 2)
        self.refused(NoStep, [3, "s"], pieces, ODDS, "aaaxa", 1, 4, 5)
        self.refused(NoTail, ["v"], pieces, PERCENT, "pfxpx", 2, 4)
        self.refused(NoStep, [4, "u"], pieces, PERCENT, "xxxpx", 3)

    def test_long_ones(self):
        self.equal(pieces(LINES, "n" * 400, 100, 400), ("rn" * 100, "rn" * 300, ""))
        self.equal(pieces(LINES, "a" * 400, *range(401)), ("", *["a"] * 400, ""))
        self.refused(NoStep, [399, "s"], pieces, LINES, "a" * 399 + "z", 200)

    def test_wrong_values(self):
        for value in NO_CONVERTERS:
            self.refused(BadConverter, ["converter"], pieces, value, "a", 1)
            self.refused(BadConverter, ["converter"], pieces, value, value, value)
        for value in NO_TEXTS:
            self.refused(BadWord, [value], pieces, LINES, value)
            self.refused(BadWord, [value], pieces, NO_TAIL, value, value, -1)
        for value in [*NO_INTEGERS, -1, 4, 401, 10 ** 30]:
            for converter in (LINES, NO_TAIL, ODDS):
                self.refused(BadNumber, [value], pieces, converter, "aaa", value)
                self.refused(BadNumber, [value], pieces, converter, "aaa", 1, 3, value, 2, None)
                self.refused(BadNumber, [value], pieces, converter, "xxx", value, 9)
        self.refused(BadNumber, [1], pieces, EVENS, "aa", 2, 1)
        self.refused(BadNumber, [0], pieces, EVENS, "aaaaa", 1, 1, 3, 0, 5)
        self.refused(BadNumber, [2], pieces, EVENS, "zzaa", 3, 2)


class Cost(Checks):
    def test_of_all_texts(self):
        for converter in [*SMALL[:60], *EDGES, EVENS, MODES, CHEAP, AHEAD, UNCUT]:
            for n in range(4):
                for text in taken(converter, n):
                    for at in range(n + 1):
                        told = cost_by_words(converter, text, at)
                        if told is not None:
                            self.equal(cost(converter, text, at), told)
                        else:
                            error = NoTail if walk(converter, text[at:]) and converter.takes(text[:at]) else (NoStep, NoTail)
                            self.assertRaises(error, cost, converter, text, at)

    def test_few(self):
        self.equal([cost(EVENS, "aa", 1), cost(EVENS, "aaa", 1), cost(EVENS, "aa", 0), cost(EVENS, "aa", 2), cost(EVENS, "", 0)],
                   [4, 0, 0, 0, 0])
        self.equal([cost(CHEAP, "aa", 1), cost(CHEAP, "aa", 0), cost(JUST_TAIL, "", 0)], [-2, 3, 4])
        self.equal([cost(MODES, "b" + "a" * 399, 1), cost(at=1, text="ba", converter=MODES)], [399, 1])

    def test_wrong_values(self):
        for value in NO_CONVERTERS:
            self.refused(BadConverter, ["converter"], cost, value, "a", 1)
            self.refused(BadConverter, ["converter"], cost, value, value, value)
        for value in NO_TEXTS:
            self.refused(BadWord, [value], cost, LINES, value, 0)
            self.refused(BadWord, [value], cost, NO_TAIL, value, value)
        # The whole text is looked at first, then the place, then the pieces.
        for value in [*NO_INTEGERS, -1, 4, 1]:
            self.refused(NoStep, [1, "s"], cost, LINES, "axa", value)
            self.refused(NoTail, ["s"], cost, ODDS, "aa", value)
        for value in [*NO_INTEGERS, -1, 4, 10 ** 30]:
            self.refused(BadNumber, [value], cost, LINES, "aaa", value)
            self.refused(BadNumber, [value], cost, UNCUT, "a", value)
        self.refused(NoTail, ["s"], cost, ODDS, "aaa", 0)
        self.refused(NoTail, ["s"], cost, ODDS, "aaa", 1)
        self.refused(NoTail, ["v"], cost, PERCENT, "pff", 2)
        self.refused(NoStep, [1, "z"], cost, PERCENT.with_tail("u", ""), "pff", 1)
        self.refused(NoStep, [2, "z"], cost, PERCENT.with_tail("v", ""), "pff", 2)


class Dearest(Checks):
    def check(self, converter):
        told = dearest_cut(converter)
        left, firsts = left_pairs(converter)
        if told is None:
            self.equal(firsts, [])
        elif bool(told):
            self.assertIs(type(told), Cut)
            self.assertTrue(is_right_cut(converter, told.number, told.heights, told.text, told.at), str(converter))
            self.equal(cost(converter, told.text, told.at), told.number)
        else:
            self.assertIs(type(told), EndlessCut)
            self.assertTrue(is_right_endless_cut(converter, told.text, told.at, told.ring, told.behind), str(converter))
            self.assertLessEqual(max(len(told.text), len(told.ring), len(told.behind)), 45)
            costs = [cost(converter, told.text + told.ring * k + told.behind, told.at) for k in range(7)
                     if len(told.ring) * k < 300]
            self.assertTrue(all(one < other for one, other in zip(costs, costs[1:])))
        if told is not None:
            self.equal(dearest_cut(converter) == told, True)
        return told

    def test_what_it_tells(self):
        kinds = {None: 0, True: 0, False: 0}
        for converter in [*EACH, *LONG, EVENS, MODES, CHEAP, AHEAD, UNCUT]:
            if not useful_of(converter):
                self.refused(NoText, [None], dearest_cut, converter)
            else:
                told = self.check(converter)
                kinds[None if told is None else bool(told)] += 1
        self.assertGreater(min(kinds.values()), 10)

    def test_of_all_texts(self):
        for converter in [*SMALL, EVENS, MODES, CHEAP, AHEAD, UNCUT]:
            costs = [cost_by_words(converter, text, at) for n in range(5) for text in taken(converter, n)
                     for at in range(n + 1)]
            costs = [value for value in costs if value is not None]
            if useful_of(converter):
                told = dearest_cut(converter)
                if told is None:
                    self.equal(costs, [])
                elif told:
                    self.assertLessEqual(max([*costs, told.number]), told.number)
                    if len(told.text) < 5:
                        self.equal(max(costs), told.number)

    def test_few(self):
        self.equal([dearest_cut(converter).number for converter in (EVENS, LINES, CHEAP, AHEAD, JUST_TAIL, ONLY_EMPTY)],
                   [4, 0, 3, 1, 4, 2])
        self.equal([dearest_cut(converter) for converter in (UNCUT, PERCENT.with_tail("u", "").without_tail("z"))], [None, None])
        self.equal([bool(dearest_cut(MODES)), dearest_cut(MODES) == EndlessCut("b", 1, "a", "")], [False, True])
        below = Converter.read("@s s:a>>t t:a>>t t$").with_step("t", "a", "xxxx", "t")
        self.equal([self.check(below).number, cost(below, "aa", 1)], [-4, -4])
        self.equal(dearest_cut(converter=LINES).number, 0)

    def test_long_rings(self):
        # Both runs go round the same six states, one apart from the other by a step.
        names = "abcdef"
        for many in (0, 1, 2):
            steps = {(names[k], "n"): ("y" * (many if k == 2 else 1), names[(k + 1) % 6]) for k in range(6)}
            for end in range(6):
                self.check(Converter("a", steps, {names[end]: "q" * (end % 5)}))
                self.check(Converter("a", {**steps, ("d", "m"): ("yyyy", "b")}, {names[end]: "q", "a": ""}))

    def test_papers(self):
        for value, other in product(ANYTHING, ANYTHING[::5]):
            paper = Cut(value, other, value, other)
            self.equal((paper.number, paper.heights, paper.text, paper.at, bool(paper)), (value, other, value, other, True))
            paper = EndlessCut(value, other, other, value)
            self.equal((paper.text, paper.at, paper.ring, paper.behind, bool(paper)), (value, other, other, value, False))
            self.assertIsInstance(paper, Verdict)
        self.equal(Cut(at=1, text="a", heights={}, number=2) == Cut(2, {}, "a", 1), True)
        self.equal(EndlessCut(behind="d", ring="c", at=1, text="a") == EndlessCut("a", 1, "c", "d"), True)
        for other in (Cut(3, {}, "a", 1), Cut(2, [], "a", 1), Cut(2, {}, "b", 1), Cut(2, {}, "a", True), EndlessCut(2, {}, "a", 1),
                      None, (2, {}, "a", 1)):
            self.equal(Cut(2, {}, "a", 1) == other, False)
        for other in (EndlessCut("b", 1, "c", "d"), EndlessCut("a", True, "c", "d"), EndlessCut("a", 1, "d", "d"),
                      EndlessCut("a", 1, "c", ""), Cut("a", 1, "c", "d"), False):
            self.equal(EndlessCut("a", 1, "c", "d") == other, False)

    def test_wrong_values(self):
        for value in NO_CONVERTERS:
            self.refused(BadConverter, ["converter"], dearest_cut, value)
            self.refused(BadConverter, ["converter"], dearest_cut, converter=value)
        for converter in EMPTY:
            self.refused(NoText, [None], dearest_cut, converter)

    def test_nothing_changes(self):
        for converter in (EVENS, SIX, STUFF, MODES, BOTH):
            before = (str(converter), dict(converter.steps), dict(converter.tails))
            told = dearest_cut(converter)
            if told:
                told.heights.clear()
                self.equal(dearest_cut(converter) == told, False)
            self.check(converter)
            self.equal((str(converter), converter.steps, converter.tails), before)
        heights = {("s", "s"): 0}
        paper = Cut(0, heights, "a", 1)
        heights.clear()
        self.equal(paper.heights, {("s", "s"): 0})

    def test_many_cuts(self):
        # Of a text of which all pieces and all rests are taken, k cuts cost at most k times the number.
        for converter in (EVENS, LINES, CHEAP, PACKS.narrowed("a"), TRAP, FINITE):
            told = dearest_cut(converter)
            for text in [text for n in range(6) for text in taken(converter, n)]:
                for places in [places for k in (1, 2, 3) for places in combinations_with_replacement(range(len(text) + 1), k)]:
                    parts = [text[a:b] for a, b in zip((0, *places), (*places, len(text)))]
                    if told and all(converter.takes(part) for part in [*parts, *[text[at:] for at in places]]):
                        more = len("".join(pieces(converter, text, *places))) - len(converter(text))
                        self.assertLessEqual(more, len(places) * told.number)

    def test_time(self):
        begun = time.perf_counter()
        for converter in (SIX, MODES, *LONG[:18]):
            if useful_of(converter):
                dearest_cut(converter)
        self.assertLess(time.perf_counter() - begun, 1)
