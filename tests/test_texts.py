"""headgap/texts.py and headgap/reader.py: the texts of converters, growths and logs."""

import random
import time

from headgap.arrays import array_for
from headgap.converters import Converter
from headgap.errors import BadConverter, BadGrowth, BadLog, BadText, HeadError, TooMany
from headgap.gaps import gap_for
from headgap.growths import Growth
from headgap.reader import read, read_converter, read_growth, read_log
from headgap.sizes import least, longest
from headgap.texts import converter_text, growth_text, log_text
from tests.checks import ANYTHING, LINES, NO_CONVERTERS, Checks
from tests.plain_words import wrong_converter, wrong_growth, wrong_log
from tests.samples import EACH, EDGES, GREAT, JUST_TAIL, ODDS, SIX, SMALL, STUFF

READERS = (read_converter, read_growth, read_log)
GROWTHS = [Growth.none(), Growth.ramp(2), Growth([None, 1], [0, 1]), Growth([5]), Growth([0, 1, 2, 3, 4], [6] * 5), Growth([-1, None, -10 ** 59], [-3]),
           *[work(converter) for converter in EDGES for work in (longest, least, gap_for, array_for)]]
LOGS = [(), ((0, 0),), ((2, 3), (1, 0)), tuple((k, 10 ** 6 - k) for k in range(30)), ((10 ** 6, 10 ** 6),) * 2]


class Texts(Checks):
    def test_converters(self):
        for converter in EACH:
            text = converter_text(converter)
            lines = [f"converter {converter.start}"]
            lines += [f"{state} {letter} {answer or '-'} {to}" for (state, letter), (answer, to) in sorted(converter.steps.items())]
            lines += [f"{state} end {tail or '-'}" for state, tail in sorted(converter.tails.items())]
            self.equal([text, wrong_converter(text)], ["\n".join(lines), None])
            self.equal([read_converter(text) == converter, read(text) == converter], [True, True])

    def test_growths(self):
        for growth in GROWTHS:
            told = " ".join("none" if value is None else str(value) for value in growth.told)
            text = growth_text(growth)
            self.equal(text, f"growth\ntold {told}\ngains {' '.join(map(str, growth.gains))}")
            self.equal([read_growth(text), read(text)], [growth, growth])

    def test_logs(self):
        for log in LOGS:
            text = "\n".join(["log", *[f"{first} {second}" for first, second in log]])
            self.equal([log_text(log), log_text(list(log)), read_log(text), read(text)], [text, text, log, log])
        self.equal([log_text([]), log_text(()), read_log("log")], ["log", "log", ()])

    def test_few(self):
        self.equal(converter_text(LINES), "converter s\ns a a s\ns n rn s\ns end -")
        self.equal([converter_text(JUST_TAIL), converter_text(Converter("abcdefgh", {}, {}))], ["converter s\ns end abcd", "converter abcdefgh"])
        self.equal([growth_text(Growth.none()), growth_text(growth=Growth.ramp(-1, 3))], ["growth\ntold none\ngains 0", "growth\ntold 3\ngains -1"])
        self.equal([log_text(log=[(0, 10 ** 6)]), converter_text(converter=ODDS)], ["log\n0 1000000", "converter s\ns a bb t\nt a - s\nt end c"])

    def test_wrong_values(self):
        for value in NO_CONVERTERS:
            self.refused(BadConverter, ["converter"], converter_text, value)
        for value in ANYTHING:
            if not isinstance(value, Growth):
                self.refused(BadGrowth, ["growth"], growth_text, value)
            if not isinstance(value, (list, tuple)):
                self.refused(BadLog, [None], log_text, value)
            if value != (1, 2):
                self.refused(BadLog, [0], log_text, [value])
                self.refused(BadLog, [2], log_text, ((0, 0), (5, 5), value, value))
        for item in ((0,), (0, 0, 0), [0, 0], (-1, 0), (0, -1), (10 ** 6 + 1, 0), (0, 10 ** 6 + 1), (True, 0), (0, False), ("0", 0), (None, 0), ()):
            self.refused(BadLog, [0], log_text, (item, item))
            self.refused(BadLog, [1], log_text, [(3, 3), item])

    def test_arguments_stay(self):
        log = [(2, 3), (1, 0)]
        text = log_text(log)
        log.append((5, 5))
        self.equal([text, read_log(text)], ["log\n2 3\n1 0", ((2, 3), (1, 0))])
        converter = read_converter(converter_text(SIX))
        self.equal([converter == SIX, converter is SIX], [True, False])


class Readers(Checks):
    def bad(self, work, line, word, text):
        for reader in (work, read):
            self.refused(BadText, [line, word], reader, text)

    def test_another_first_word(self):
        for value in [*ANYTHING, "", " ", "\n", "converte s", "Converter s", " converter s", "growths", "lo", "log ", "growth ", "told 1"]:
            if value not in ("log ", "growth "):
                for work in (*READERS, read):
                    self.refused(BadText, [0, 0], work, value)
        for text in (converter_text(LINES), growth_text(Growth.ramp(2)), log_text([(1, 1)])):
            found = [work for work in READERS if text.startswith(work.__name__[5:])]
            for work in READERS:
                if work not in found:
                    self.refused(BadText, [0, 0], work, text)

    def test_first_lines(self):
        for text, word in (("converter", 1), ("converter ", 1), ("converter S", 1), ("converter abcdefghi", 1), ("converter s ", 2), ("converter s s", 2),
                           ("converter  s", 1), ("converter s x\nq", 2), ("converter\ns end -", 1)):
            self.bad(read_converter, 0, word, text)
        for work, text in ((read_growth, "growth "), (read_growth, "growth x\ntold 1\ngains 1"), (read_log, "log "), (read_log, "log 1\n1 1")):
            self.bad(work, 0, 1, text)

    def test_lines_of_converters(self):
        for lines, line, word in (
                ("", 1, 0), (" ", 1, 0), ("S a a s", 1, 0), ("abcdefghi", 1, 0), ("1 a a s", 1, 0), ("s", 1, 1), ("s ", 1, 1), ("s A a s", 1, 1), ("s ab a s", 1, 1),
                ("s ends a", 1, 1), ("s a", 1, 2), ("s a ", 1, 2), ("s a abcde s", 1, 2), ("s a -- s", 1, 2), ("s a A s", 1, 2), ("s a a", 1, 3), ("s a a ", 1, 3),
                ("s a a -", 1, 3), ("s a a abcdefghi", 1, 3), ("s a a s ", 1, 4), ("s a a s s", 1, 4), ("s end", 1, 2), ("s end ", 1, 2), ("s end abcde", 1, 2),
                ("s end - s", 1, 3), ("s end - ", 1, 3), ("s end s end", 1, 3)):
            self.bad(read_converter, line, word, f"converter s\n{lines}")
            self.bad(read_converter, line + 2, word, f"converter s\na a - a\nb b wxyz b\n{lines}")
            self.bad(read_converter, line, word, f"converter s\n{lines}\n?")

    def test_order_of_steps_and_tails(self):
        for lines, line, word in (
                ("s b - s\ns a - s", 2, 1), ("s b - s\ns b - s", 2, 1), ("s b - s\na z - s", 2, 1), ("s b - s\na z", 2, 1), ("s b - s\na", 2, 1),
                ("s b - s\na end", 2, 2), ("s end -\ns end -", 2, 0), ("s end -\na end -", 2, 0), ("s end -\ns a - s", 2, 0), ("s end -\nt a - s", 2, 1),
                ("s end -\nt", 2, 1), ("s end -\nt ends -", 2, 1), ("s end -\nt end -\ns a - s", 3, 0), ("s end -\n", 2, 0), ("s end -\nt end -\n\n", 3, 0),
                ("s a - s\nss a - s\nsa a - s", 3, 1), ("s end -\nsa end -\ns end -", 3, 0)):
            self.bad(read_converter, line, word, f"converter s\n{lines}")
        self.equal(str(read("converter s\ns b - s\ns z - s\nsa a - s\na end -\ns end wxyz")), "@s s:b>>s s:z>>s sa:a>>s a$ s$wxyz")
        # Names that are words of the table, too.
        for text in ("converter end\nend a - log\nend end -\nlog end end", "converter log\nend end log"):
            self.equal(converter_text(read(text)), text)

    def test_too_many(self):
        def lines(states, letters):
            return [f"{state} {letter} - s" for state in states for letter in letters]
        self.refused(TooMany, ["states", 6], read, "\n".join(["converter s", *lines("abcdef", "x")]))
        self.refused(TooMany, ["states", 6], read_converter, "\n".join(["converter s", *lines("abcdef", "vwxyz"), "a end -"]))
        self.refused(TooMany, ["letters", 4], read_converter, "\n".join(["converter s", *lines("s", "vwxyz")]))
        self.equal(len(read("\n".join(["converter s", *lines("abcde", "wxyz")]))), 6)
        # What is wrong in the text comes first.
        self.bad(read_converter, 6, 3, "\n".join(["converter s", *lines("abcdef", "x")])[:-2])
        self.bad(read_converter, 7, 0, "\n".join(["converter s", *lines("abcdef", "x"), ""]))

    def test_lines_of_growths(self):
        for text, line, word in (
                ("growth", 1, 0), ("growth\n", 1, 0), ("growth\ntold", 1, 1), ("growth\ntolds 1", 1, 0), ("growth\n1", 1, 0), ("growth\ntold ", 1, 1),
                ("growth\ntold - 1\ngains 0", 1, 1), ("growth\ntold 1 None", 1, 2), ("growth\ntold 01", 1, 1), ("growth\ntold -0", 1, 1), ("growth\ntold +1", 1, 1),
                ("growth\ntold 1", 2, 0), ("growth\ntold 1\n", 2, 0), ("growth\ntold 1 ", 1, 2), ("growth\ntold 1\ngain 1", 2, 0), ("growth\ntold 1\ngains", 2, 1),
                ("growth\ntold 1\ngains none", 2, 1), ("growth\ntold 1\ngains 0 0", 2, 2), ("growth\ntold 1\ngains 0 x", 2, 2), ("growth\ntold 1\ngains 0 0 x", 2, 3),
                ("growth\ntold 1\ngains 0\n", 3, 0), ("growth\ntold 1\ngains 0\nx y", 3, 0), ("growth\ntold 1\ngains 0 0\n", 2, 2), ("growth\ntold 1\ngains 0 ", 2, 2),
                ("growth\ngains 0\ntold 1", 1, 0), ("growth\ntold x\ngains y", 1, 1), ("growth\ntold 1 2\ngains 1\n\n", 3, 0)):
            self.bad(read_growth, line, word, text)

    def test_growths_that_are_written_otherwise(self):
        for text in ("growth\ntold 1 1\ngains 0", "growth\ntold 1 2\ngains 1", "growth\ntold 0 1\ngains 2 2", "growth\ntold none\ngains 1",
                     "growth\ntold none none\ngains 0", "growth\ntold 0 none\ngains 0 3", "growth\ntold 5 7\ngains 2", "growth\ntold 1 2 3 4\ngains 2 2"):
            self.bad(read_growth, 0, 0, text)
        self.equal(str(read("growth\ntold 0 none\ngains 3 0")), "0 - ; 3 0")

    def test_digits(self):
        for sign in ("", "-"):
            self.equal(read(f"growth\ntold {sign}{'9' * 60}\ngains {sign}{'1' * 60}").told, (int(sign + "9" * 60),))
            self.bad(read_growth, 1, 1, f"growth\ntold {sign}{'9' * 61}\ngains 0")
            self.bad(read_growth, 2, 1, f"growth\ntold 0\ngains {sign}{'9' * 61}")
            self.bad(read_growth, 1, 1, f"growth\ntold {sign}0{'9' * 59}\ngains 0")
        self.bad(read_log, 1, 0, f"log\n{'9' * 61} 0")

    def test_gains(self):
        def text(told, gains):
            return f"growth\ntold {' '.join(map(str, told))}\ngains {' '.join(map(str, gains))}"
        gains = [2 ** (k % 60) for k in range(61)]
        self.equal(read(text([0] * 60, gains[:60])) == Growth([0] * 60, gains[:60]), True)
        self.bad(read_growth, 2, 61, text([0] * 61, gains))
        self.bad(read_growth, 2, 60, text([0] * 59, gains))
        self.bad(read_growth, 2, 61, text([0] * 300, gains * 2))
        # Words that are no numbers are told first.
        self.bad(read_growth, 2, 62, text([0] * 61, [*gains, "x"]))
        self.bad(read_growth, 2, 5, text([0, 1], [1, 2, 3, 4, "none", 5, "x"]))
        self.bad(read_growth, 2, 3, text([0, 1], [1, 2, 3, 4, 5]))

    def test_told_ones(self):
        def text(told):
            return f"growth\ntold {' '.join(map(str, told))}\ngains 0"
        told = [k % 7 for k in range(4000)]
        told[-1] = 9
        self.equal(read(text(told)).told, tuple(told))
        self.refused(TooMany, ["told", 4000], read, text([5, *told]))
        self.refused(TooMany, ["told", 4000], read_growth, text([5, 5, 5, *told]))
        # Written otherwise comes ahead of too many, and wrong words ahead of both.
        self.bad(read_growth, 0, 0, text([5, *told, 9]))
        self.bad(read_growth, 0, 0, text([*told, 9]))
        self.bad(read_growth, 1, 4002, text([5, *told, "x"]))
        self.bad(read_growth, 3, 0, text([5, *told]) + "\n")
        self.equal(read(text([5, *told[1:]])).told[:2], (5, 1))

    def test_lines_of_logs(self):
        for text, line, word in (("log\n", 1, 0), ("log\n1", 1, 1), ("log\n1 ", 1, 1), ("log\n1 1 ", 1, 2), ("log\n1 1 1", 1, 2), ("log\nx 1", 1, 0), ("log\n1 x", 1, 1),
                                 ("log\n-1 1", 1, 0), ("log\n1 -1", 1, 1), ("log\n01 1", 1, 0), ("log\n1 1000001", 1, 1), ("log\n10000000 1", 1, 0), ("log\n1 1\n", 2, 0),
                                 ("log\n1 1\n\n2 2", 2, 0), ("log\n1  1", 1, 1), ("log\n-0 1", 1, 0), ("log\nnone 1", 1, 0), ("log\n1 1\n2", 2, 1)):
            self.bad(read_log, line, word, text)
        self.equal(read("log\n1000000 0\n0 1000000"), ((10 ** 6, 0), (0, 10 ** 6)))

    def outcome(self, work, text):
        try:
            work(text)
        except BadText as error:
            return error.line, error.word
        except HeadError as error:
            return type(error).__name__
        return None

    def changed(self, chance, text):
        """A text with a word or a line otherwise, lacking, doubled, or changed round."""
        lines = [line.split(" ") for line in text.split("\n")]
        for _ in range(chance.choice((1, 1, 2, 3))):
            line = chance.randrange(len(lines))
            if chance.random() < 0.3:
                other = chance.randrange(len(lines))
                lines[line], lines[other] = lines[other], list(lines[line])
            elif chance.random() < 0.2:
                lines.insert(line, chance.choice(([""], list(lines[line]), ["s", "end", "-"], ["t", "a", "-", "s"], ["1", "2"])))
            else:
                words = lines[line]
                at = chance.randrange(len(words)) if words else 0
                change = chance.random()
                if change < 0.2:
                    del words[at:at + 1]
                else:
                    word = chance.choice(("s", "t", "end", "-", "a", "none", "told", "gains", "0", "1", "-3", "01", "", "abcde", "abcdefghi", "A", "z", "1000001", "9" * 61))
                    words[at:at + (change < 0.8)] = [word]
        return "\n".join(" ".join(words) for words in lines)

    def test_changed_texts(self):
        chance = random.Random(9)
        kinds = {}
        texts = [converter_text(converter) for converter in [*SMALL, *EDGES]] * 3
        for text in texts:
            for _ in range(4):
                other = self.changed(chance, text)
                told = self.outcome(read_converter, other)
                self.equal(None if told == "TooMany" else told, wrong_converter(other))
                kinds[told] = kinds.get(told, 0) + 1
        for log in LOGS[1:] * 40:
            other = self.changed(chance, log_text(log))
            self.equal(self.outcome(read_log, other), wrong_log(other))
        for growth in GROWTHS * 4:
            other = self.changed(chance, growth_text(growth))
            self.equal(self.outcome(read_growth, other), wrong_growth(other, lambda told, gains: growth_text(Growth(told, gains))))
        self.assertGreater(kinds[None], 20)
        self.assertGreater(len(kinds), 30)

    def test_time(self):
        begun = time.perf_counter()
        for converter in [SIX, STUFF, *GREAT[:8]]:
            read(converter_text(converter))
            read(growth_text(array_for(converter)))
        read("log" + "\n1000 1000" * 290)
        read_growth("growth\ntold " + "1 2 " * 1999 + "1 2\ngains 0")
        self.assertLess(time.perf_counter() - begun, 1)
