"""The examples of the document, as they stand there."""

import unittest

import headgap.errors

GROWTHS = '''
>>> from headgap.growths import Growth
>>> stairs, twice = Growth([0, 1, 2, 3, 4], [6] * 5), Growth.ramp(2)
>>> [stairs[4], stairs[5], stairs(10 ** 30) == 12 * 10 ** 29, stairs.stretch(3, 7), str(stairs), str(twice), str(Growth([3, 5, 7, 9], (4, 4)))]
[4, 6, True, (3, 4, 6, 7), '0 1 2 3 4 ; 6 6 6 6 6', '0 ; 2', '3 ; 2']
>>> [str(stairs - Growth.ramp(1)), str(twice | 7 - twice), str(twice & Growth.constant(3)), str(twice << 3), str(twice >> 1), str((twice - 5).raised(0))]
['0 0 0 0 0 ; 1 1 1 1 1', '7 5 4 ; 2', '0 2 3 ; 0', '6 ; 2', '- 0 ; 2', '0 0 0 1 ; 2']
>>> odd = Growth([None, 1], [0, 1])
>>> [5 in odd, 4 in odd, odd.stretch(0, 6), str(odd + twice), str(odd | Growth.constant(2)), odd <= twice, twice.first_above(stairs), odd.slope, stairs.slope, Growth.constant(4).greatest]
[True, False, (None, 1, None, 2, None, 3), '- 3 ; 0 5', '2 2 2 2 ; 0 1', True, 1, (1, 2), (6, 5), 4]
>>> Growth.read("0 1 ; 1")
raises BadText(0, 0)
>>> Growth([1], [1, 2])
raises BadGrowth('told')
'''

CONVERTERS = '''
>>> from headgap.converters import Converter
>>> lines = Converter("s", {("s", "a"): ("a", "s"), ("s", "n"): ("rn", "s")}, {"s": ""})
>>> [str(lines), lines("ana"), lines.takes("x"), lines["s", "n"], lines.tail("s"), "n" in lines, len(lines), list(lines), lines.letters]
['@s s:a>a>s s:n>rn>s s$', 'arna', False, ('rn', 's'), '', True, 1, ['s'], ('a', 'n')]
>>> odd = Converter.of("p", p={"a": ("x", "q"), "": ""}, q={"a": ("", "p")})
>>> [str(odd), odd("aa"), odd == Converter.read("@p p:a>x>q q:a>>p p$"), str(odd.with_tail("q", "yy").without_step("q", "a")), str(lines.narrowed("a"))]
['@p p:a>x>q q:a>>p p$', 'x', True, '@p p:a>x>q p$ q$yy', '@s s:a>a>s s$']
>>> odd("a")
raises NoTail('q')
>>> lines("axn")
raises NoStep(1, 's')
>>> Converter.read("@p q:a>>p p:a>x>q p$")
raises BadText(0, 2)
'''

RUNS = '''
>>> from headgap.runs import climbs, least_text, run, texts, useful
>>> packs = Converter("s", {("s", "a"): ("", "t"), ("t", "a"): ("b", "s"), ("t", "c"): ("", "u")}, {"s": "", "t": "aa"})
>>> [run(packs, "aaa"), climbs(packs, "aaa"), useful(packs), packs.takes("aac")]
[('s', 't', 's', 't'), (0, -1, -1, -2), ('s', 't'), False]
>>> [list(texts(lines, 2)), list(texts(packs, 3)), least_text(packs), len(list(texts(lines, 5)))]
[['aa', 'an', 'na', 'nn'], ['aaa'], '', 32]
>>> run(packs, "ab")
raises NoStep(1, 't')
'''

RINGS = '''
>>> from headgap.rates import Rate
>>> from headgap.rings import Mean, Ring, greatest_mean, ring_rate, rings, shows_mean
>>> [str(Rate(6, 4)), Rate(6, 4) == Rate(3, 2), Rate(1, 2) + 1 > Rate(4, 3), str(2 - Rate(1, 2)), Rate(-1, 2).floor, Rate.read("3/2") * 2 == 3]
['3/2', True, True, '3/2', -1, True]
>>> [[ring.state, ring.text] for ring in rings(lines)]
[['s', 'a'], ['s', 'n']]
>>> told = greatest_mean(lines)
>>> [str(told.rate), shows_mean(lines, told), shows_mean(lines, Mean(Rate(2), Ring("s", "nn"), {"s": 5})), shows_mean(lines, Mean(Rate(1), Ring("s", "a"), {"s": 0})), str(ring_rate(lines, Ring("s", "an")))]
['2', True, True, False, '3/2']
>>> Rate.read("2/4")
raises BadText(0, 0)
'''

JOINS = '''
>>> from headgap.joins import beside, common, joined, repeated
>>> back = Converter("s", {("s", "a"): ("a", "s"), ("s", "r"): ("", "t"), ("t", "n"): ("n", "s")}, {"s": ""})
>>> [str(lines >> back), (lines >> back)("ana") == "ana", str(lines >> lines.narrowed("a")), str(lines * 2)]
['@a a:a>a>a a:n>n>a a$', True, '@a a:a>a>a a$', '@s s:a>aa>s s:n>rnrn>s s$']
>>> [str(common(lines, odd)), str(beside(lines, Converter("x", {("x", "b"): ("", "x")}, {"x": "z"})))]
['@a a:a>a>b b:a>a>a a$', '@a a:a>a>a a:b>>a a:n>rn>a a$z']
>>> lines | lines
raises Taken('a')
>>> lines >> (lines * 3)
raises TooMany('answer', 4)
'''

SIZES = '''
>>> from headgap.converters import Converter
>>> from headgap.sizes import Table, burst, least, longest, table, text_for
>>> from headgap.look_sizes import shows_table
>>> lines = Converter("s", {("s", "a"): ("a", "s"), ("s", "n"): ("rn", "s")}, {"s": ""})
>>> stuff = Converter.read("@p p:a>a>q p:b>b>p q:a>a>r q:b>b>p r:a>a>s r:b>b>p s:a>a>t s:b>b>p t:a>ab>p t:b>b>p p$ q$ r$ s$ t$")
>>> [str(longest(lines)), str(least(lines)), longest(stuff) == stairs, str(burst(stuff)), text_for(stuff, 6)]
['0 ; 2', '0 ; 1', True, '0 2 3 4 5 ; 6 6 6 6 6', 'aaaaaa']
>>> [str(table(stuff, "longest").growths["t"]), str(table(lines, "gap").growths["s"]), shows_table(lines, "longest", Table({"s": Growth.ramp(2)})), shows_table(lines, "longest", Table({"s": Growth.ramp(3)}))]
['0 2 3 4 5 ; 6 6 6 6 6', '0 0 ; 1', True, False]
>>> odds = Converter.read("@s s:a>bb>t t:a>>s t$c")
>>> [str(longest(odds)), text_for(odds, 3), str(longest(Converter.read("@s s:a>a>s")))]
['- 3 ; 0 2', 'aaa', '- ; 0']
>>> text_for(odds, 2)
raises NoText(2)
'''

GAPS = '''
>>> from headgap.gaps import Enough, Never, gap, gap_for, gap_of, safe_length
>>> from headgap.look_gaps import shows_gap
>>> percent = Converter.read("@z u:f>>v v:f>x>z z:p>>u z:x>x>z z$")
>>> [gap_of(lines, "nna"), gap_of(lines, "ann"), gap_of(stuff, "aaaaa"), gap_of(stuff, "aaaaab"), gap_of(percent, "pffx"), gap_of(lines, "")]
[2, 1, 0, 1, 0, 0]
>>> [bool(gap(lines)), bool(gap(percent)), gap(percent).number, str(gap_for(lines)), str(gap_for(stuff)), str(gap_for(percent))]
[False, True, 0, '0 0 ; 1', '0 0 0 0 0 0 ; 1 1 1 1 1', '0 ; 0']
>>> [shows_gap(percent, Enough(0, {"z": 0, "u": -1, "v": -2}, "xx")), shows_gap(percent, Enough(0, {"z": 0, "u": 0, "v": 0}, "")), shows_gap(percent, Enough(1, {"z": 1, "u": 0, "v": 0}, "xx")), shows_gap(lines, Never("a", "an", ""))]
[True, True, False, True]
>>> [safe_length(lines, 3), safe_length(stuff, 0), safe_length(percent, 0)]
[4, 5, None]
>>> gap_of(percent, "pf")
raises NoTail('v')
'''

ARRAYS = '''
>>> from headgap.arrays import Beyond, Fits, array_for, array_of, extra, extra_for, extra_of, fits_in
>>> from headgap.look_arrays import shows_extra
>>> both = Converter.read("@x x:a>a>x x:b>b>y x:n>rn>x y:a>a>x y:b>>y y:n>rn>x x$ y$")
>>> [array_of(lines, "nna"), extra_of(lines, "nna"), array_of(both, "nnnbbbb"), extra_of(both, "nnnbbbb"), extra_for(both, 7), extra_for(both, 1)]
[5, 0, 10, 3, 3, 0]
>>> [str(array_for(lines)), str(array_for(percent)), fits_in(lines, 9), fits_in(odds, 2), bool(extra(lines)), bool(extra(both))]
['0 ; 2', '0 ; 1', 4, 0, True, False]
>>> [shows_extra(lines, Fits(0, {}, {"s": 0}, "nn")), shows_extra(lines, Fits(0, {"s": 0}, {}, "nn")), shows_extra(both, Beyond("", "n", "b", "b", "")), shows_extra(both, Beyond("", "n", "", "b", ""))]
[True, False, True, False]
>>> extra(Converter.read("@s s:a>a>s"))
raises NoText(None)
'''

BURSTS = '''
>>> from headgap.bursts import surely_taken
>>> [surely_taken(lines, 5), surely_taken(lines, 0), surely_taken(packs, 1), surely_taken(packs, 0)]
[2, 0, 2, 0]
'''

CUTS = '''
>>> from headgap.cuts import Cut, EndlessCut, cost, dearest_cut, pieces
>>> from headgap.look_cuts import shows_cut
>>> evens = Converter("s", {("s", "a"): ("x", "t"), ("t", "a"): ("x", "s")}, {"s": "", "t": "yy"})
>>> [pieces(evens, "aaa", 1, 1), cost(evens, "aa", 1), cost(evens, "aaa", 1), dearest_cut(evens).number]
[('xyy', '', 'xx'), 4, 0, 4]
>>> [shows_cut(evens, Cut(4, {("t", "s"): 2, ("s", "t"): 2, ("s", "s"): 0, ("t", "t"): 0}, "aa", 1)), shows_cut(evens, dearest_cut(evens)), dearest_cut(lines).number]
[True, True, 0]
>>> modes = Converter("s", {("s", "b"): ("", "t"), ("s", "a"): ("aa", "s"), ("t", "a"): ("a", "t")}, {"s": "", "t": ""})
>>> [bool(dearest_cut(modes)), shows_cut(modes, EndlessCut("b", 1, "a", "")), cost(modes, "baaa", 1)]
[False, True, 3]
>>> pieces(evens, "aa", 2, 1)
raises BadNumber(1)
'''

COMPARE = '''
>>> from headgap.compare import alike_in_length, apart, difference, never_longer, shows_difference
>>> plain = Converter("s", {("s", "a"): ("a", "s"), ("s", "n"): ("n", "s")}, {"s": "zz"})
>>> [difference(plain, lines).number, bool(difference(lines, plain)), shows_difference(lines, plain, difference(lines, plain)), shows_difference(lines, plain, Never("", "n", "a"))]
[2, False, True, True]
>>> [never_longer(lines, plain), never_longer(lines, lines), apart(lines, plain), apart(lines, lines) is None, alike_in_length(plain, lines)]
[False, True, '', True, False]
'''

SMALLEST = '''
>>> from headgap.smallest import Lengths, counted, smallest
>>> two = Converter("s", {("s", "a"): ("aa", "t"), ("t", "a"): ("", "u"), ("s", "b"): ("", "u"), ("u", "a"): ("bb", "t")}, {"t": "", "u": "c"})
>>> found = smallest(two)
>>> [found.first, found.steps == {(0, "a"): (1, 1), (0, "b"): (0, 1), (1, "a"): (1, 1)}, found.tails, counted(found, "aa"), counted(found, "ab")]
[1, True, {1: 0}, 3, None]
>>> smallest(lines) == Lengths(0, {(0, "a"): (1, 0), (0, "n"): (2, 0)}, {0: 0})
True
'''

CALM = '''
>>> from headgap.calm import blamed, calm_letters
>>> [list(calm_letters(lines, 3)), blamed(lines, 3), list(calm_letters(lines.narrowed("n"), 3))]
[[('a',)], (('n',),), [()]]
'''

LOGS = '''
>>> from headgap.logs import explained, first_wrong, lengths_of, states_after
>>> [states_after(stuff, [(5, 6)]), explained(stuff, [(5, 6)]), explained(stuff, ((2, 2), (6, 7))), first_wrong(stuff, [(3, 3), (4, 5)]), lengths_of(stuff, 5)]
[('p',), 'aaaaa', 'aaaaaa', 1, (5, 6)]
>>> [states_after(percent, [(1, 0)]), explained(percent, [(1, 0)]), explained(odds, [(0, 0)]), lengths_of(odds, 3), lengths_of(odds, 2)]
[('u',), 'pff', 'a', (5,), ()]
>>> explained(lines, [(2, 2), (2, 3)])
raises BadLog(1)
'''

LIVE = '''
>>> from headgap.live import Array
>>> array = Array(lines, "ana", 1)
>>> [array.step(), array.step(), array.writer, array.reader, array.ahead, array.stretch(0, 4), array.unread]
['a', 'rn', 3, 3, 0, ('a', 'r', 'n', 'a'), 'a']
>>> [array.run(), array.is_done, array.log, list(array)]
['arna', True, ('step', 'step', 'run'), ['a', 'r', 'n', 'a']]
>>> short = Array(lines, "nn")
>>> short.step()
raises RunOver(1)
>>> short.ahead = 1
raises NoRoom(2)
>>> wide = Array(lines, "nn", 1, 4)
>>> [wide.step(), wide.flush(), wide.put("a"), wide.unread, wide.undo(), wide.undo(), wide.log, wide.ahead]
['rn', '', None, 'na', None, None, ('step',), 0]
>>> [Array(lines, "nn", 2).run(), Array(lines, "aa").run()]
['rnrn', 'aa']
>>> late = Array(lines, "n", 0, 4)
>>> [late.step(), late.reader, late.ahead, late.put("a"), late.move(1), late.unread, list(late)]
['rn', 2, 0, None, None, 'a', ['r', 'n', None, 'a']]
>>> moved = Array(lines, "nn", 1, 4)
>>> moved.ahead = 2
>>> [list(moved), moved.log, moved.ahead]
[[None, None, 'n', 'n'], ('ahead 2',), 2]
'''

TEXTS = r'''
>>> from headgap.reader import read, read_converter, read_log
>>> from headgap.texts import converter_text, log_text
>>> [converter_text(lines).split("\n"), read(converter_text(odd)) == odd, log_text([(2, 3), (1, 0)]), read_log("log")]
[['converter s', 's a a s', 's n rn s', 's end -'], True, 'log\n2 3\n1 0', ()]
>>> read_converter("converter s\ns end -\nt a a s")
raises BadText(2, 1)
>>> read_converter("converter s\ns a a")
raises BadText(1, 3)
'''

DESK = '''
>>> from headgap.desk import Desk
>>> desk = Desk()
>>> desk.run("let l @s s:a>a>s s:n>rn>s s$", "answer l nan", "longest l 1000000000000", "shortest l 3", "gap l", "extra l", "room l 5", "narrow l a", "gap l", "undo", "show l")
['ok', 'rnarn', '2000000000000', '3', 'never', 'fits 0', '10', 'ok', 'enough 0', 'ok', '@s s:a>a>s s:n>rn>s s$']
>>> desk.run("let b @s s:a>a>s s:r>>t t:n>n>s s$", "join c l b", "show c", "more l c", "more c l", "answer b -", "answer b r", "answer x a", "drop b", "gap b")
['ok', 'ok', '@a a:a>a>a a:n>n>a a$', 'never', 'most 0', '-', 'refused NoTail', 'no x', 'ok', 'no b']
>>> desk("let b @s s:a>s")
raises BadCommand(3)
>>> desk("answer l")
raises BadCommand(2)
'''

# The same by the signs alone.
SIGNS = '''
>>> [str(lines & odd), str(lines | Converter("x", {("x", "b"): ("", "x")}, {"x": "z"}))]
['@a a:a>a>b b:a>a>a a$', '@a a:a>a>a a:b>>a a:n>rn>a a$z']
'''


def outcome(code, names):
    """What an example shows: nothing, its value, or the error that it raises with its fields."""
    try:
        if code.startswith("from ") or " = " in code:
            exec(code, names)
            return ""
        return repr(eval(code, names))
    except headgap.errors.HeadError as error:
        fields = ", ".join(repr(value) for value in vars(error).values())
        return f"raises {type(error).__name__}({fields})"


class Examples(unittest.TestCase):
    def check(self, *texts):
        names = {}
        for text in texts:
            for part in text.strip("\n").split(">>> ")[1:]:
                code, _, told = part.strip("\n").partition("\n")
                self.assertEqual(outcome(code, names), told, code)

    def test_growths(self):
        self.check(GROWTHS)

    def test_converters(self):
        self.check(CONVERTERS)

    def test_runs(self):
        self.check(CONVERTERS, RUNS)

    def test_rates_and_rings(self):
        self.check(CONVERTERS, RINGS)

    def test_joins(self):
        self.check(CONVERTERS, JOINS)

    def test_sizes(self):
        self.check(GROWTHS, CONVERTERS, SIZES)

    def test_gaps(self):
        self.check(GROWTHS, CONVERTERS, SIZES, GAPS)

    def test_arrays(self):
        self.check(GROWTHS, CONVERTERS, SIZES, GAPS, ARRAYS)

    def test_bursts(self):
        self.check(CONVERTERS, RUNS, BURSTS)

    def test_cuts(self):
        self.check(CONVERTERS, CUTS)

    def test_compare(self):
        self.check(GROWTHS, CONVERTERS, SIZES, GAPS, COMPARE)

    def test_smallest(self):
        self.check(CONVERTERS, SMALLEST)

    def test_calm(self):
        self.check(CONVERTERS, CALM)

    def test_logs(self):
        self.check(GROWTHS, CONVERTERS, SIZES, GAPS, LOGS)

    def test_live(self):
        self.check(CONVERTERS, LIVE)

    def test_texts(self):
        self.check(CONVERTERS, TEXTS)

    def test_desk(self):
        self.check(DESK)

    def test_all_in_their_order(self):
        self.check(GROWTHS, CONVERTERS, RUNS, RINGS, SIZES, GAPS, ARRAYS, BURSTS, CUTS, COMPARE, JOINS, SMALLEST, CALM, LOGS, LIVE,
                   TEXTS, DESK)

    def test_signs(self):
        self.check(CONVERTERS, SIGNS)
