"""headgap/logs.py: the texts that explain logs, and the lengths of answers."""

import random
import time

from headgap.converters import Converter
from headgap.errors import BadConverter, BadLog, BadNumber
from headgap.live import Array
from headgap.logs import explained, first_wrong, lengths_of, states_after
from tests.checks import ANYTHING, LINES, NO_CONVERTERS, NO_INTEGERS, Checks
from tests.plain_sizes import rows, useful_of
from tests.plain_ways import taken, walk
from tests.samples import (
    BOTH, EACH, EDGES, EMPTY, FINITE, GREAT, JUST_TAIL, NO_TAIL, ODDS, ONLY_EMPTY, PACKS, PERCENT, SIX, SMALL, STUFF, TRAP)


def heights_of(converter, text):
    """How many letters the steps write behind 0, 1 and so on letters of a text."""
    states = walk(converter, text)
    found = [0]
    for state, letter in zip(states, text):
        found.append(found[-1] + len(converter.steps[state, letter][0]))
    return found


def explaining(converter, log, most):
    """All taken texts of at most so many letters that explain a log, by length, then in Python's order."""
    found = []
    for n in range(log[-1][0], most + 1):
        for text in taken(converter, n):
            told = heights_of(converter, text)
            if all(told[read] == written for read, written in log):
                found.append(text)
    return found


def explained_by_rows(converter, log):
    """The first one of the shortest texts that explain a log, and the states behind its last moment, row by row.

    Of texts of one length that come to the same state and write so many letters the first one is kept.
    """
    useful, told = useful_of(converter), dict(log)
    row = {(converter.start, 0): ""} if converter.start in useful else {}
    after = None
    for k in range(log[-1][0] + 8):
        if k in told:
            row = {key: text for key, text in row.items() if key[1] == told[k]}
        if k == log[-1][0]:
            after = sorted({state for state, _ in row})
        ended = [text for (state, _), text in row.items() if state in converter.tails]
        if k >= log[-1][0] and ended:
            return min(ended), tuple(after)
        later = {}
        for (state, written), text in row.items():
            for letter in converter.letters:
                answer, to = converter.steps.get((state, letter), ("", None))
                if to in useful:
                    key = (to, written + len(answer))
                    later[key] = min(later.get(key, text + letter), text + letter)
        row = later
    return None, tuple(after)


def logs_of(converter, chance, most):
    """Some logs: of a taken text, perhaps with one number otherwise."""
    for _ in range(6):
        text = ""
        state = converter.start
        while len(text) < most:
            ways = [letter for letter in converter.letters if (state, letter) in converter.steps]
            if not ways:
                break
            text += chance.choice(ways)
            state = converter.steps[state, text[-1]][1]
        told = heights_of(converter, text)
        places = sorted(chance.sample(range(len(told)), chance.randint(1, min(len(told), 20))))
        log = [(at, told[at]) for at in places]
        if chance.random() < 0.4:
            at = chance.randrange(len(log))
            log[at] = (log[at][0], max(0, log[at][1] + chance.choice((-1, 1, 2))))
        yield log


SOME = [converter for converter in [*SMALL[:60], *EDGES] if len(converter.letters) < 3]


class Explained(Checks):
    def check(self, converter, log):
        text, states = explained_by_rows(converter, log)
        self.equal([explained(converter, log), states_after(converter, log)], [text, states])
        wrong = [k for k in range(len(log)) if explained_by_rows(converter, log[:k + 1])[0] is None]
        self.equal(first_wrong(converter, log), wrong[0] if wrong else None)
        return wrong[0] if wrong else None

    def test_of_all_texts(self):
        for converter in SOME:
            for first in range(3):
                for written in range(7):
                    for second in ((), ((3, 4),), ((3, written),), ((4, 2), (5, 3))):
                        log = [(first, written), *second]
                        found = explaining(converter, log, min(len(converter) + log[-1][0], 8))
                        self.equal(explained(converter, log), found[0] if found else None)
                        self.equal(states_after(converter, log), tuple(sorted({walk(converter, text)[log[-1][0]] for text in found})))
                        wrong = [k for k in range(len(log)) if not explaining(converter, log[:k + 1], min(len(converter) + 5, 8))]
                        self.equal(first_wrong(converter, log), wrong[0] if wrong else None)

    def test_from_row_to_row(self):
        chance = random.Random(6)
        kinds = {}
        for converter in [*EACH, *GREAT]:
            for log in logs_of(converter, chance, chance.choice((3, 8, 20))):
                told = self.check(converter, log)
                kinds[told] = kinds.get(told, 0) + 1
        self.assertGreater(kinds[None], 200)
        self.assertGreater(len(kinds), 8)

    def test_long_logs(self):
        chance = random.Random(7)
        for converter in [*EDGES, *GREAT[:8]]:
            for log in logs_of(converter, chance, 60):
                self.check(converter, log)

    def test_few(self):
        self.equal([states_after(STUFF, [(5, 6)]), explained(STUFF, [(5, 6)]), explained(STUFF, ((2, 2), (6, 7))),
                    first_wrong(STUFF, [(3, 3), (4, 5)])], [("p",), "aaaaa", "aaaaaa", 1])
        self.equal([states_after(PERCENT, [(1, 0)]), explained(PERCENT, [(1, 0)]), explained(ODDS, [(0, 0)])], [("u",), "pff", "a"])
        self.equal([states_after(STUFF, [(4, 4)]), states_after(STUFF, [(4, 5)])], [("p", "q", "r", "s", "t"), ()])
        self.equal([explained(log=[(2, 3)], converter=LINES), states_after(log=[(2, 3)], converter=LINES), first_wrong(log=[(2, 5)], converter=LINES)],
                   ["an", ("s",), 0])

    def test_read_nothing(self):
        self.equal([explained(LINES, [(0, 0)]), explained(LINES, [(0, 1)]), first_wrong(LINES, [(0, 1), (1, 1)]), states_after(ODDS, [(0, 0)])],
                   ["", None, 0, ("s",)])

    def test_the_tail_is_no_part_of_it(self):
        self.equal([explained(JUST_TAIL, [(0, 0)]), explained(JUST_TAIL, [(0, 4)]), explained(ODDS, [(1, 2)]), explained(ODDS, [(1, 3)])],
                   ["", None, "a", None])

    def test_the_first_one_of_the_shortest(self):
        # ab and ba write three, so do bb and ac with a letter more; behind c the way to a tail is longer.
        some = Converter.read("@s s:a>y>s s:b>yy>s s:c>yy>t t:a>>s s$")
        self.equal([explained(some, [(2, 3)]), explained(some, [(2, 4)]), explained(some, [(3, 4)]), explained(some, [(2, 2)]),
                    explained(some, [(1, 2)]), explained(some, [(2, 5)])], ["ab", "bb", "aab", "aa", "b", None])
        late = Converter.read("@s s:a>y>t s:b>y>s t:a>>u u:a>>v v:a>>s v:b>>w w:c>>w w:d>>x w$ x$")
        self.equal([explained(late, [(1, 1)]), explained(late, [(4, 1)]), explained(late, [(5, 1)])], ["aaab", "aaab", "aaabc"])
        self.equal([explained(late, [(1, 1), (2, 2)]), explained(late, [(1, 1), (2, 2), (3, 3)])], ["baaab", "bbaaab"])

    def test_texts_that_end_before_the_moment(self):
        self.equal([explained(FINITE, [(3, 6)]), explained(FINITE, [(2, 5), (3, 6)]), explained(FINITE, [(4, 6)]), first_wrong(FINITE, [(3, 6), (4, 6)]),
                    first_wrong(FINITE, [(3, 6), (4, 6), (5, 6)]), first_wrong(FINITE, [(4, 6), (5, 7)])], ["aab", "aab", None, 1, 1, 0])
        # From the states to which these ways lead no text is taken.
        self.equal([states_after(TRAP, [(1, 2)]), states_after(TRAP, [(2, 2)]), states_after(PACKS, [(2, 0)]), explained(TRAP, [(3, 6)])],
                   [("t",), ("s",), (), None])

    def test_no_text_is_taken(self):
        for converter in EMPTY:
            self.equal([states_after(converter, [(0, 0)]), explained(converter, [(0, 0)]), first_wrong(converter, [(0, 0), (1, 1)])], [(), None, 0])

    def test_of_letters_that_write_nothing(self):
        mute = Converter.read("@s s:a>>s s:b>>t t:a>>s t$")
        self.equal([explained(mute, [(k, 0) for k in range(41, 61)]), explained(mute, [(60, 1)]), explained(mute, [(0, 0), (60, 0)])],
                   ["a" * 59 + "b", None, "a" * 59 + "b"])

    def test_great_numbers(self):
        full = Converter.read("@s s:a>yyyy>s s$")
        self.equal([explained(full, [(60, written)]) for written in (240, 239, 241, 10 ** 30, 10 ** 59)], ["a" * 60, None, None, None, None])
        self.equal([first_wrong(full, [(1, 4), (59, 236), (60, 10 ** 59)]), states_after(full, [(1, 10 ** 59)])], [2, ()])

    def test_items(self):
        for many, right in ((1, True), (2, True), (20, True), (21, False)):
            log = [(k, k) for k in range(many)]
            for kind in (list, tuple):
                if right:
                    self.equal([explained(LINES, kind(log)), first_wrong(LINES, kind(log)), states_after(LINES, kind(log))],
                               ["a" * (many - 1), None, ("s",)])
                else:
                    self.refused(BadLog, [None], explained, LINES, kind(log))
        self.equal([explained(LINES, [(60, 60)]), explained(LINES, [(59, 59), (60, 60)])], ["a" * 60] * 2)

    def test_a_log_of_an_array(self):
        for converter in (LINES, STUFF, BOTH, PACKS):
            array = Array(converter, converter.letters[0] * 6, 40, 100)
            log = [(0, 0)]
            while array.unread:
                array.step()
                log.append((log[-1][0] + 1, array.writer))
            self.equal(first_wrong(converter, log), None)
            self.assertIn(array.state, states_after(converter, log))
            self.assertIn(array.state, states_after(converter, log[-1:]))


class WrongLogs(Checks):
    def wrong(self, at, log):
        for work in (states_after, explained, first_wrong):
            for converter in (LINES, NO_TAIL):
                self.refused(BadLog, [at], work, converter, log)

    def test_no_logs(self):
        for value in [*ANYTHING, "log", {(0, 0): (1, 1)}]:
            if not isinstance(value, (list, tuple)):
                self.wrong(None, value)
            self.wrong(0, [value, (1, 1)] if value != (1, 2) else [[1, 2]])
            self.wrong(1, ((0, 0), value) if value != (1, 2) else ((1, 1), (1, 2)))
        for value in ([], (), [(k, k) for k in range(21)], [None] * 21, tuple((61 + k, 0) for k in range(22))):
            self.wrong(None, value)

    def test_wrong_items(self):
        for item in ([0, 0], (0,), (0, 0, 0), (True, 0), (0, False), (-1, 0), (0, -1), ("0", 0), (0, None), (61, 0), (10 ** 30, 0), ()):
            self.wrong(0, [item])
            self.wrong(0, (item, item))
        for item in ((1, 1), (0, 5), (61, 61), (2, -1), (2, True), [2, 2], (2, 2, 2)):
            self.wrong(1, [(1, 1), item])
            self.wrong(1, [(1, 1), item, None, (0, 0)])
            self.wrong(2, [(0, 0), (1, 1), item])
        self.wrong(19, [(k, k) for k in range(19)] + [(18, 19)])
        self.wrong(1, [(60, 0), (61, 0)])
        self.wrong(1, [(5, 5), (5, 5)])

    def test_wrong_values(self):
        for value in NO_CONVERTERS:
            for work in (states_after, explained, first_wrong):
                self.refused(BadConverter, ["converter"], work, value, [(0, 0)])
                self.refused(BadConverter, ["converter"], work, log=value, converter=value)
            self.refused(BadConverter, ["converter"], lengths_of, value, 3)
            self.refused(BadConverter, ["converter"], lengths_of, value, value)

    def test_arguments_stay(self):
        log = [(1, 1), (3, 4)]
        for work in (states_after, explained, first_wrong):
            work(LINES, log)
            self.equal(log, [(1, 1), (3, 4)])


class Lengths(Checks):
    def test_of_all_texts(self):
        for converter in EACH:
            for n in range(4):
                self.equal(lengths_of(converter, n), tuple(sorted({len(converter(text)) for text in taken(converter, n)})))

    def test_the_greatest_and_the_least(self):
        for converter in [*EACH, *GREAT]:
            most, least = rows(converter, "longest", 60), rows(converter, "least", 60)
            for n in (5, 20, 59, 60):
                told = lengths_of(converter, n)
                self.equal((min(told, default=None), max(told, default=None)), (least[n].get(converter.start), most[n].get(converter.start)))

    def test_from_row_to_row(self):
        for converter in [*EDGES, *GREAT[:10]]:
            row = {(converter.start, 0)} if useful_of(converter) else set()
            for n in range(25):
                ends = {written + len(converter.tails[state]) for state, written in row if state in converter.tails}
                self.equal(lengths_of(converter, n), tuple(sorted(ends)))
                row = {(converter.steps[state, letter][1], written + len(converter.steps[state, letter][0]))
                       for state, written in row for letter in converter.letters if (state, letter) in converter.steps}

    def test_few(self):
        self.equal([lengths_of(STUFF, 5), lengths_of(ODDS, 3), lengths_of(ODDS, 2), lengths_of(JUST_TAIL, 0), lengths_of(JUST_TAIL, 1),
                    lengths_of(ONLY_EMPTY, 0), lengths_of(NO_TAIL, 0), lengths_of(n=2, converter=LINES)],
                   [(5, 6), (5,), (), (4,), (), (2,), (), (2, 3, 4)])
        self.equal(lengths_of(LINES, 60), tuple(range(60, 121)))

    def test_wrong_values(self):
        for value in [*NO_INTEGERS, -1, 61, 10 ** 30]:
            for converter in (LINES, NO_TAIL):
                self.refused(BadNumber, [value], lengths_of, converter, value)

    def test_time(self):
        begun = time.perf_counter()
        log = [(3 * k, 5 * k) for k in range(1, 21)]
        for converter in [SIX, STUFF, *GREAT[:18]]:
            explained(converter, log)
            states_after(converter, log)
            first_wrong(converter, log)
            lengths_of(converter, 60)
        self.assertLess(time.perf_counter() - begun, 1)
