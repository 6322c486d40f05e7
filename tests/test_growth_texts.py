"""headgap/growths.py: str and read."""

from headgap.errors import BadText
from headgap.growths import Growth
from tests.checks import ANYTHING, TWICE, Checks
from tests.plain_growths import small_rows


class Texts(Checks):
    def test_written(self):
        self.equal(str(Growth([3, None, -4], [2, 7])), "3 - -4 ; 2 0")
        self.equal((str(Growth.none()), str(Growth.constant(0))), ("- ; 0", "0 ; 0"))
        self.equal(str(Growth([10 ** 59], [-10 ** 59])), f"{10 ** 59} ; -{10 ** 59}")

    def test_read_back(self):
        for told, gains in small_rows():
            growth = Growth(told, gains)
            self.equal(Growth.read(str(growth)) == growth, True)
            self.equal(Growth.read(text=str(growth)).told, growth.told)

    def test_the_longest_ones(self):
        numbers = [10 ** 59 + 7 * k * k for k in range(4000)]
        growth = Growth(numbers, [k * k for k in range(60)])
        self.equal((len(growth.told), growth.period), (4000, 60))
        self.equal(Growth.read(str(growth)) == growth, True)

    def test_no_strings(self):
        for value in ANYTHING:
            if not isinstance(value, str):
                self.refused(BadText, [0, 0], Growth.read, value)

    def test_words_that_cannot_stand(self):
        for text, word in (
                ("", 0), (" ", 0), ("; 0", 0), (" 0 ; 1", 0), ("x", 0), ("0 x ; 1", 1), ("0  ; 1", 1), ("0 ; - ", 2),
                ("0 ; 1 ", 3), ("0 ; 1 1", 3), ("0 ; 1 x", 3), ("0 1 ; 1 x", 4), ("0 ; ;", 2), ("0 5 ; 1 ;", 4),
                ("0 ;1", 1), ("00 ; 1", 0), ("01 ; 1", 0), ("-0 ; 1", 0), ("+1 ; 1", 0), ("--1 ; 1", 0), ("0 ; -0", 2),
                ("0 ; 01", 2), ("1.0 ; 1", 0), ("1_0 ; 1", 0), ("0 ; 1\n", 2), ("0\n; 1", 0), ("none ; 0", 0),
                ("- - x", 2), ("1 2 3 -- ; 0", 3), ("0 ; 1 2 3", 3), ("growth", 0)):
            self.refused(BadText, [0, word], Growth.read, text)

    def test_words_that_are_missing(self):
        for text, word in (("0", 1), ("-", 1), ("0 1 -", 3), ("0 ;", 2), ("- - ;", 3)):
            self.refused(BadText, [0, word], Growth.read, text)

    def test_written_otherwise(self):
        for text in ("0 1 ; 1", "0 1 ; 2 2", "- ; 1", "- - ; 0", "- 0 ; 5 0", "0 0 ; 0", "4 4 7 ; 3 3", "7 1 2 ; 1"):
            self.refused(BadText, [0, 0], Growth.read, text)
        for text in ("1 2 ; 0 2", "- 0 ; 0 0", "0 ; 1", "7 1 ; 1", "4 4 ; 3 3"):
            self.equal(str(Growth.read(text)), text)

    def test_figures(self):
        for sign in ("", "-"):
            self.equal(Growth.read(f"{sign}{'9' * 60} ; 0")[5], int(sign + "9" * 60))
            self.equal(Growth.read(f"0 ; {sign}{'9' * 60}")[1], int(sign + "9" * 60))
            self.refused(BadText, [0, 0], Growth.read, f"{sign}{'9' * 61} ; 0")
            self.refused(BadText, [0, 2], Growth.read, f"0 ; {sign}1{'0' * 60}")

    def test_many_words(self):
        full = " ".join(["1"] * 3999 + ["2"])
        self.equal(len(Growth.read(full + " ; 0").told), 4000)
        self.refused(BadText, [0, 4000], Growth.read, full)
        self.refused(BadText, [0, 4000], Growth.read, full + " 2 ; 0")
        self.refused(BadText, [0, 4000], Growth.read, full + " 2")
        self.refused(BadText, [0, 4001], Growth.read, full + " ;")
        told = " ".join(str(k * k) for k in range(70))
        gains = [str(5 * k * k) for k in range(61)]
        self.equal(Growth.read(f"{told} ; {' '.join(gains[:60])}").period, 60)
        self.refused(BadText, [0, 131], Growth.read, f"{told} ; {' '.join(gains)}")
        self.refused(BadText, [0, 131], Growth.read, f"{told} ; {' '.join(gains)} x")
        self.refused(BadText, [0, 3], Growth.read, "5 ; 0 9")
        self.refused(BadText, [0, 5], Growth.read, "5 6 ; 0 9 9 9")

    def test_nothing_changes(self):
        for value in ANYTHING:
            if isinstance(value, str):
                with self.assertRaises(BadText):
                    Growth.read(value)
        self.equal(str(TWICE), "0 ; 2")
