"""The whole program: its parts tell the same of one converter, and every class and error keeps what is said of all."""

import random
import time

from headgap import errors
from headgap.arrays import Beyond, Fits, array_for, array_of, extra, extra_for, extra_of, fits_in
from headgap.bursts import surely_taken
from headgap.calm import blamed, calm_letters
from headgap.compare import alike_in_length, apart, difference, never_longer, shows_difference
from headgap.converters import Converter
from headgap.cuts import Cut, EndlessCut, cost, dearest_cut, pieces
from headgap.desk import Desk
from headgap.errors import HeadError, RunOver
from headgap.gaps import Enough, Never, gap, gap_for, gap_of, safe_length
from headgap.joins import beside, common, joined, repeated
from headgap.live import Array
from headgap.logs import explained, first_wrong, lengths_of, states_after
from headgap.look_arrays import shows_extra
from headgap.look_cuts import shows_cut
from headgap.look_gaps import shows_gap
from headgap.look_sizes import shows_table
from headgap.papers import Verdict
from headgap.reader import read
from headgap.rings import Mean, Ring, greatest_mean, ring_rate, rings, shows_mean
from headgap.runs import climbs, least_text, run, texts, useful
from headgap.sizes import Table, burst, least, longest, table, text_for
from headgap.smallest import Lengths, counted, smallest
from headgap.texts import converter_text, growth_text
from tests.checks import ANYTHING, LINES, NO_CONVERTERS, Checks
from tests.plain_sizes import useful_of
from tests.plain_ways import taken
from tests.samples import BOTH, EDGES, GREAT, PERCENT, SIX, SMALL, STUFF

SOME = [*EDGES, *SMALL[:40], *GREAT[:15]]
# Each function of one converter, with arguments that are taken behind it.
ONE = ((run, "a"), (climbs, "a"), (useful,), (least_text,), (ring_rate, Ring("s", "a")), (greatest_mean,), (shows_mean, None), (longest,), (least,), (burst,),
       (table, "gap"), (shows_table, "gap", None), (text_for, 3), (gap_of, "a"), (gap,), (gap_for,), (safe_length, 3), (shows_gap, None), (array_of, "a"),
       (extra_of, "a"), (extra,), (array_for,), (fits_in, 3), (extra_for, 3), (shows_extra, None), (surely_taken, 3), (pieces, "a", 1), (cost, "a", 1), (dearest_cut,),
       (shows_cut, None), (repeated, 2), (smallest,), (blamed, 3), (states_after, [(1, 1)]), (explained, [(1, 1)]), (first_wrong, [(1, 1)]), (lengths_of, 3),
       (converter_text,), (Array, "a"))
TWO = (difference, shows_difference, never_longer, apart, alike_in_length, joined, beside, common)
GENERATORS = ((rings,), (texts, 3), (calm_letters, 3))


class TheSame(Checks):
    def test_lengths_are_told_alike(self):
        for converter in SOME:
            told = smallest(converter)
            for n in range(6):
                found = lengths_of(converter, n)
                self.equal([longest(converter)[n], least(converter)[n]], [max(found, default=None), min(found, default=None)])
                if n < 4:
                    self.equal(sorted({len(converter(text)) for text in texts(converter, n)}), list(found))
                    self.equal(sorted({counted(told, text) for text in texts(converter, n)}), list(found))

    def test_joined_converters(self):
        chance = random.Random(2)
        many = 0
        letters = str.maketrans("wxyzpqr", "acnacna")
        for _ in range(400):
            one, other = chance.choice(SOME), chance.choice(SOME)
            one = Converter(one.start, {key: (answer.translate(letters), to) for key, (answer, to) in one.steps.items()},
                            {state: tail.translate(letters) for state, tail in one.tails.items()})
            try:
                both = one >> other
            except HeadError as error:
                self.equal(type(error).__name__, "TooMany")
                continue
            for text in [text for n in range(4) for text in taken(one, n)][:30]:
                between = one(text)
                self.equal(both.takes(text), other.takes(between))
                if other.takes(between):
                    many += 1
                    self.equal([both(text), counted(smallest(both), text)], [other(between), counted(smallest(other), between)])
                    ahead = gap_of(both, text)
                    self.equal(Array(both, text, ahead, ahead + 5 * len(text) + 9).run(), other(between))
        self.assertGreater(many, 100)

    def test_a_copy_behind_changes_nothing(self):
        for converter in SOME:
            written = sorted({sign for answer, _ in converter.steps.values() for sign in answer} | {sign for tail in converter.tails.values() for sign in tail})
            if len(written) < 5:
                copy = Converter("c", {("c", sign): (sign, "c") for sign in written}, {"c": ""})
                both = converter >> copy
                self.equal([smallest(both) == smallest(converter), alike_in_length(both, converter), longest(both) == longest(converter)], [True] * 3)
                self.equal([gap_for(both), array_for(both), never_longer(both, converter), never_longer(converter, both)],
                           [gap_for(converter), array_for(converter), True, True])

    def test_common_and_difference(self):
        for one, other in zip(SOME, [*SOME[5:], *SOME[:5]]):
            try:
                both = common(one, other)
            except HeadError:
                continue
            told = difference(one, other)
            self.equal(told is None, least_text(both) is None)
            if told:
                self.equal(counted(smallest(one), told.text) - counted(smallest(other), told.text), told.number)
                self.equal(len(both(told.text)) - len(other(told.text)), told.number)
            self.equal([never_longer(both, one), never_longer(one, both)], [True, True])

    def test_gaps_and_arrays(self):
        for converter in SOME:
            if not useful_of(converter):
                continue
            told = gap(converter)
            self.equal([gap_for(converter).is_endless, gap_for(converter).greatest], [not told, told.number if told else None])
            self.equal(safe_length(converter, told.number if told else 10 ** 30) is None, bool(told))
            if told and told.number > 0:
                array = Array(converter, told.text, told.number - 1, 900)
                self.assertRaises(RunOver, array.run)
                self.equal(Array(converter, told.text, told.number, 900).run(), converter(told.text))

    def test_logs_of_arrays(self):
        for converter in SOME:
            for n in (3, 8):
                if n in longest(converter):
                    text = text_for(converter, n)
                    array, log = Array(converter, text, 30, 100), []
                    for k in range(n):
                        array.step()
                        log.append((k + 1, array.writer))
                        self.assertIn(array.state, states_after(converter, log))
                    first = explained(converter, log)
                    self.equal([first_wrong(converter, log), len(first), first <= text], [None, n, True])
                    self.equal(array.state, run(converter, text)[-1])
                    self.equal([k + 1 + height for k, height in enumerate(climbs(converter, text)[1:])], [written for _, written in log])

    def test_the_desk_tells_the_same(self):
        for converter in SOME:
            desk = Desk()
            desk.run(f"let a {converter}", f"let b {read(converter_text(converter))}")
            word = {None: "none"}
            for n in (0, 1, 5, 10 ** 12, 10 ** 30):
                told = [longest(converter)[n], least(converter)[n], gap_for(converter)[n], array_for(converter)[n]]
                self.equal(desk.run(f"longest a {n}", f"shortest a {n}", f"ahead a {n}", f"room b {n}"), [word.get(value, str(value)) for value in told])
            self.equal([desk("least a"), desk("more a b")], [str(len({at for at, _ in smallest(converter).steps} | set(smallest(converter).tails))),
                                                             "most 0" if useful_of(converter) else "none"])
            text = least_text(converter)
            if text is not None:
                self.equal(desk(f"answer a {text or '-'}"), converter(text) or "-")

    def test_cuts_and_flushes(self):
        # A cut of a text is a flush of an array that holds it.
        for converter in SOME[:50]:
            for text in [text for n in range(4) for text in taken(converter, n)][:12]:
                for at in range(len(text) + 1):
                    if converter.takes(text[:at]) and converter.takes(text[at:]):
                        array = Array(converter, text, 40, 80)
                        for _ in range(at):
                            array.step()
                        array.flush()
                        self.equal(array.run(), "".join(pieces(converter, text, at)))
                        self.equal(len(array.written) - len(converter(text)), cost(converter, text, at))


class Conventions(Checks):
    def test_no_converters(self):
        for value in NO_CONVERTERS[::3]:
            for work, *values in ONE:
                self.refused(errors.BadConverter, ["converter"], work, value, *values)
                self.refused(errors.BadConverter, ["converter"], work, value, *[value for _ in values])
            for work in TWO:
                rest = [None] if work is shows_difference else []
                self.refused(errors.BadConverter, ["one"], work, value, value, *rest)
                self.refused(errors.BadConverter, ["other"], work, LINES, value, *rest)
            for work, *values in GENERATORS:
                self.refused(errors.BadConverter, ["converter"], lambda: list(work(value, *values)))

    def outcome(self, work, *values):
        try:
            told = work(*values)
        except HeadError as error:
            return type(error), tuple(vars(error).values())
        return list(told) if work in [line[0] for line in GENERATORS] else told

    def test_equal_arguments(self):
        # Equal converters can be told in another order of their steps and tails.
        for converter in SOME:
            other = Converter(converter.start, dict(reversed(converter.steps.items())), dict(reversed(converter.tails.items())))
            self.equal(converter, other)
            for work, *values in [*ONE, *GENERATORS]:
                self.equal(self.outcome(work, converter, *values) == self.outcome(work, other, *values), True)
            for work in TWO:
                rest = [None] if work is shows_difference else []
                self.equal(self.outcome(work, converter, STUFF, *rest) == self.outcome(work, other, STUFF, *rest), True)
                self.equal(self.outcome(work, BOTH, converter, *rest) == self.outcome(work, BOTH, other, *rest), True)

    def test_equal_to_nothing_else(self):
        for k, value in enumerate(ANYTHING):
            for j, other in enumerate(ANYTHING):
                if type(value).__module__.startswith("headgap.") and not (value == 1 and other in (1, True)):
                    self.equal([value == other, value != other], [k == j, k != j])

    def test_papers_of_any_values(self):
        for made, names in ((Ring, "state text"), (Mean, "rate ring heights"), (Table, "growths"), (Enough, "number heights text"), (Never, "ahead ring behind"),
                            (Fits, "number rises losses text"), (Beyond, "ahead rising between falling behind"), (Cut, "number heights text at"),
                            (EndlessCut, "text at ring behind"), (Lengths, "first steps tails")):
            names = names.split(" ")
            for value in ANYTHING:
                parts = dict.fromkeys(names, value)
                paper = made(**parts)
                self.equal([getattr(paper, name) for name in names], [value] * len(names))
                self.equal([paper == made(*parts.values()), paper == made(*[*parts.values()][:-1], ["other"])], [True, False])
            self.equal(bool(made(*names)), made not in (Never, Beyond, EndlessCut))
            self.equal(issubclass(made, Verdict), made in (Enough, Never, Fits, Beyond, Cut, EndlessCut))

    def test_errors(self):
        found = [kind for kind in vars(errors).values() if isinstance(kind, type) and kind is not HeadError]
        self.equal(len(found), 23)
        for kind in found:
            self.equal(kind.__bases__, (HeadError,))

    def test_texts_of_growths_and_desks(self):
        for converter in SOME[:30]:
            for growth in (longest(converter), least(converter), gap_for(converter), array_for(converter)):
                self.equal([read(growth_text(growth)), type(growth).read(str(growth))], [growth, growth])

    def test_time(self):
        slowest = 0
        for converter in (SIX, STUFF, BOTH, PERCENT, *[converter for converter in GREAT if useful_of(converter)][:4]):
            for work, *values in ONE:
                begun = time.perf_counter()
                try:
                    work(converter, *values)
                except HeadError:
                    pass
                slowest = max(slowest, time.perf_counter() - begun)
        self.assertLess(slowest, 0.3)
