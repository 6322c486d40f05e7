"""headgap/bursts.py: how many letters can be read into so many cells."""

from headgap.bursts import surely_taken
from headgap.converters import Converter
from headgap.errors import BadConverter, BadNumber
from headgap.sizes import burst
from tests.checks import LINES, NO_CONVERTERS, NO_INTEGERS, Checks
from tests.plain_sizes import bursts, rows
from tests.samples import EACH, FINITE, JUST_TAIL, NO_TAIL, NO_WAY, ODDS, ONLY_EMPTY, PACKS, PERCENT, SMALL, STUFF, TRAP


class SurelyTaken(Checks):
    def test_of_all_ways(self):
        for converter in SMALL:
            told = [max(bursts(converter, n), default=0) for n in range(6)]
            for cells in range(8):
                above = [n for n in range(6) if told[n] > cells]
                if above:
                    self.equal(surely_taken(converter, cells), above[0] - 1)
                elif surely_taken(converter, cells) is not None:
                    self.assertGreaterEqual(surely_taken(converter, cells), 5)

    def test_from_length_to_length(self):
        for converter in EACH:
            told = [max([value for value in row.values() if value is not None], default=0)
                    for row in rows(converter, "burst", 150)]
            for cells in (0, 1, 2, 5, 20, 60):
                above = [n for n, value in enumerate(told) if value > cells]
                if above:
                    self.equal(surely_taken(converter, cells), above[0] - 1)
                elif burst(converter).is_endless:
                    self.assertGreaterEqual(surely_taken(converter, cells), 150)
                else:
                    self.equal(surely_taken(converter, cells), None)

    def test_few(self):
        self.equal([surely_taken(LINES, cells) for cells in range(6)], [0, 0, 1, 1, 2, 2])
        self.equal([surely_taken(PACKS, cells) for cells in range(3)], [0, 2, 4])
        self.equal([surely_taken(ODDS, cells) for cells in range(5)], [0, 0, 2, 2, 4])
        self.equal([surely_taken(FINITE, cells) for cells in (3, 4, 5, 6)], [0, 1, 2, None])
        self.equal(surely_taken(cells=1, converter=TRAP), 0)

    def test_the_tail_is_not_asked(self):
        self.equal([surely_taken(JUST_TAIL, 0), surely_taken(Converter.read("@s s:a>>s s$pppp"), 0)], [None, None])

    def test_no_greatest_one(self):
        self.equal([surely_taken(converter, 0) for converter in (NO_TAIL, NO_WAY, ONLY_EMPTY, JUST_TAIL)], [None] * 4)
        self.equal(surely_taken(Converter.read("@s s:a>>s s:b>x>t t:a>>t t$"), 1), None)

    def test_many_cells(self):
        for cells in (10 ** 12, 10 ** 30, 10 ** 30 + 5):
            self.equal([surely_taken(LINES, cells), surely_taken(PERCENT, cells), surely_taken(FINITE, cells)],
                       [cells // 2, cells, None])
            n = surely_taken(STUFF, cells)
            self.equal([burst(STUFF)[n] <= cells, burst(STUFF)[n + 1] > cells], [True, True])

    def test_wrong_values(self):
        for value in NO_CONVERTERS:
            self.refused(BadConverter, ["converter"], surely_taken, value, 1)
            self.refused(BadConverter, ["converter"], surely_taken, value, value)
        for value in [*NO_INTEGERS, -1, -10 ** 30]:
            for converter in (LINES, NO_TAIL):
                self.refused(BadNumber, [value], surely_taken, converter, value)
