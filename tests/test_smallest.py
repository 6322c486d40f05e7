"""headgap/smallest.py: the smallest machine for the lengths of answers, and what it counts."""

import random
import time
from itertools import product

from headgap.compare import alike_in_length, apart
from headgap.converters import Converter
from headgap.errors import BadConverter, BadPaper, BadWord, TooMany
from headgap.smallest import Lengths, counted, smallest
from tests.checks import ANYTHING, LINES, NO_CONVERTERS, NO_TEXTS, Checks
from tests.plain_pairs import answer_length
from tests.plain_sizes import useful_of
from tests.plain_ways import taken, words
from tests.samples import EACH, EDGES, EMPTY, FINITE, GREAT, JUST_TAIL, ODDS, ONLY_EMPTY, PACKS, PERCENT, SIX, SMALL, STUFF, six_states

TWO = Converter("s", {("s", "a"): ("aa", "t"), ("t", "a"): ("", "u"), ("s", "b"): ("", "u"), ("u", "a"): ("bb", "t")},
                {"t": "", "u": "c"})
LONG = six_states(150, 41)
LINES_LENGTHS = Lengths(0, {(0, "a"): (1, 0), (0, "n"): (2, 0)}, {0: 0})


def doubled(converter, chance):
    """The converter with each state told twice, or some more times; its steps lead to any of them."""
    names = {state: [state + more for more in "abc"[:6 // len(converter)]] for state in converter.states}
    steps = {(name, letter): (answer, chance.choice(names[to])) for (state, letter), (answer, to) in converter.steps.items()
             for name in names[state]}
    tails = {name: tail for state, tail in converter.tails.items() for name in names[state]}
    return Converter(names[converter.start][0], steps, tails)


DOUBLED = [doubled(converter, random.Random(k)) for k, converter in enumerate(SMALL) if len(converter) < 4]


def count_of(told, text):
    """What a Lengths counts for a text of any length, by its definition alone."""
    state, number = 0, told.first
    for letter in text:
        if (state, letter) not in told.steps:
            return None
        more, state = told.steps[state, letter]
        number += more
    return number + told.tails[state] if state in told.tails else None


def first_unlike(converter, told, most):
    """The first text of at most so many letters of which a converter and a Lengths tell unlike lengths."""
    rows = [("", converter.start, 0, -told.first)]
    for _ in range(most + 1):
        for text, *_ in rows:
            if count_of(told, text) != answer_length(converter, text):
                return text
        later = {}
        for text, state, number, more in rows:
            for sign in converter.letters:
                answer, to = converter.steps.get((state, sign), ("", None))
                count, end = told.steps.get((number, sign), (0, None))
                later.setdefault((to, end, more + len(answer) - count), text + sign)
        rows = [(text, *key) for key, text in later.items()]
    return None


def is_smallest(told):
    """Whether no state is of no use, everything is counted early, no two can be one, and they are in their order."""
    order = [0]
    for state in order:
        for at, sign in sorted(told.steps):
            if at == state and told.steps[at, sign][1] not in order:
                order.append(told.steps[at, sign][1])
    if order != list(range(len(order))) or not {at for at, _ in told.steps} | set(told.tails) <= set(order):
        return False
    ended, early = set(told.tails), {state for state, number in told.tails.items() if number == 0}
    for _ in order:
        ended |= {at for (at, _), (_, to) in told.steps.items() if to in ended}
        early |= {at for (at, _), (number, to) in told.steps.items() if to in early and number == 0}
    letters = {sign for _, sign in told.steps}
    parted = {(one, other) for one, other in product(order, order) if told.tails.get(one) != told.tails.get(other)}
    for _ in range(len(order) ** 2):
        for one, other, sign in product(order, order, letters):
            first, second = told.steps.get((one, sign)), told.steps.get((other, sign))
            if (first is None) != (second is None) or (
                    first is not None and (first[0] != second[0] or (first[1], second[1]) in parted)):
                parted.add((one, other))
    return ended == early == set(order) and len(parted) == len(order) ** 2 - len(order)


class Smallest(Checks):
    def check(self, converter):
        told = smallest(converter)
        self.assertIs(type(told), Lengths)
        if not useful_of(converter):
            self.equal((told.first, told.steps, told.tails), (0, {}, {}))
            return told
        self.equal(first_unlike(converter, told, 14), None)
        self.assertTrue(is_smallest(told), (str(converter), vars(told)))
        numbers = [told.first, *told.tails, *told.tails.values(), *[at for at, _ in told.steps], *sum(told.steps.values(), ())]
        self.assertTrue(all(type(number) is int and number >= 0 for number in numbers))
        self.equal(told == smallest(converter), True)
        return told

    def test_by_the_definition(self):
        many = {}
        for converter in [*EACH, *LONG, *DOUBLED, TWO]:
            told = self.check(converter)
            less = len(useful_of(converter)) - len({at for at, _ in told.steps} | set(told.tails))
            many[less] = many.get(less, 0) + 1
        self.assertGreater(len(many), 3)

    def test_of_all_texts(self):
        for converter in [*SMALL, TWO]:
            told = smallest(converter)
            for n in range(5):
                for text in words(converter.letters, n):
                    self.equal(counted(told, text), answer_length(converter, text))

    def test_few(self):
        self.equal([smallest(converter) == told for converter, told in (
            (LINES, LINES_LENGTHS), (TWO, Lengths(1, {(0, "a"): (1, 1), (0, "b"): (0, 1), (1, "a"): (1, 1)}, {1: 0})),
            (JUST_TAIL, Lengths(4, {}, {0: 0})), (ONLY_EMPTY, Lengths(2, {}, {0: 0})), (EMPTY[0], Lengths(0, {}, {})),
            (ODDS, Lengths(3, {(0, "a"): (0, 1), (1, "a"): (2, 0)}, {1: 0})),
            (PERCENT, Lengths(0, {(0, "p"): (1, 1), (0, "x"): (1, 0), (1, "f"): (0, 2), (2, "f"): (0, 0)}, {0: 0})))], [True] * 7)
        self.equal(smallest(converter=EMPTY[1]) == Lengths(0, {}, {}), True)

    def test_the_start_is_met_again(self):
        told = self.check(Converter.read("@z a:a>y>z z:a>y>a z:b>y>z a$y z$"))
        self.equal((told.first, told.steps, told.tails), (0, {(0, "a"): (2, 1), (0, "b"): (1, 0), (1, "a"): (0, 0)}, {0: 0, 1: 0}))
        told = self.check(Converter.read("@z a:a>y>z z:a>y>a a$ z$"))
        self.equal((told.first, told.steps, told.tails), (0, {(0, "a"): (1, 0)}, {0: 0}))

    def test_the_order_of_the_states(self):
        told = self.check(Converter.read("@f a:b>y>a b:a>yy>a c:a>y>b c:z>yyy>d d:z>>f f:k>>c f:z>y>d a$ d$y"))
        self.equal(told.steps, {(0, "k"): (1, 1), (0, "z"): (0, 2), (1, "a"): (0, 3), (1, "z"): (1, 2), (2, "z"): (1, 0),
                                (3, "a"): (0, 4), (4, "b"): (1, 4)})
        self.equal((told.first, told.tails), (2, {2: 0, 4: 0}))

    def test_a_common_beginning_is_counted_at_once(self):
        told = self.check(Converter.read("@s s:a>>t t:a>>u t:b>y>u u:a>>v u:b>>v v$yyyy"))
        self.equal((told.first, told.steps[1, "a"], told.steps[1, "b"], told.tails), (4, (0, 2), (1, 2), {3: 0}))

    def test_wrong_values(self):
        for value in NO_CONVERTERS:
            self.refused(BadConverter, ["converter"], smallest, value)
            self.refused(BadConverter, ["converter"], smallest, converter=value)

    def test_nothing_changes(self):
        for converter in (TWO, SIX, STUFF):
            before = (str(converter), dict(converter.steps), dict(converter.tails))
            told = smallest(converter)
            told.steps.clear()
            told.tails[99] = None
            self.equal(told == smallest(converter), False)
            self.check(converter)
            self.equal((str(converter), converter.steps, converter.tails), before)

    def test_time(self):
        begun = time.perf_counter()
        for converter in [SIX, STUFF, *LONG[:18]]:
            smallest(converter)
        self.assertLess(time.perf_counter() - begun, 1)


def other_letters(converter):
    """The converter with other letters in its answers."""
    steps = {key: ("q" * len(answer), to) for key, (answer, to) in converter.steps.items()}
    return Converter(converter.start, steps, {state: "z" * len(tail) for state, tail in converter.tails.items()})


def renamed(converter):
    """The converter with other names of its states, in another order."""
    for name in converter.states:
        converter = converter.renamed(name, "z" + "".join(chr(219 - ord(sign)) for sign in name))
    return converter


def told_twice(converter):
    """The converter with its start told twice: none of its steps leads to the new one. None if there are six states."""
    if len(converter) == 6:
        return None
    for letter in converter.letters:
        if converter[converter.start, letter] is not None:
            converter = converter.with_step("again", letter, *converter[converter.start, letter])
    if converter.tail(converter.start) is not None:
        converter = converter.with_tail("again", converter.tail(converter.start))
    return converter.begun("again") if "again" in list(converter) else None


def shifted(converter, chance):
    """The converter with letters written earlier and later; None if an answer would be too short or too long."""
    early = {state: 0 if state == converter.start else chance.randint(-2, 3) for state in converter.states}
    steps = {(state, letter): (len(answer) + early[to] - early[state], to)
             for (state, letter), (answer, to) in converter.steps.items()}
    tails = {state: len(tail) - early[state] for state, tail in converter.tails.items()}
    if not all(0 <= number <= 4 for number in [*[number for number, _ in steps.values()], *tails.values()]):
        return None
    return Converter(converter.start, {key: ("y" * number, to) for key, (number, to) in steps.items()},
                     {state: "y" * number for state, number in tails.items()})


class Alike(Checks):
    def test_equal_ones(self):
        chance = random.Random(8)
        for converter in SMALL:
            if len(converter) < 4:
                self.equal(smallest(doubled(converter, chance)) == smallest(converter), True)
        many = [0] * 4
        for converter in [*EACH, TWO]:
            others = [other_letters(converter), renamed(converter), told_twice(converter),
                      next((one for one in [shifted(converter, chance) for _ in range(300)] if one), None)]
            for k, other in enumerate(others):
                if other is not None:
                    many[k] += 1
                    self.equal([smallest(other) == smallest(converter), alike_in_length(converter, other)], [True, True])
        self.assertGreater(min(many), 30)

    def test_states_of_no_use(self):
        for converter in EACH:
            if len(converter) < 5 and "a" in converter.letters:
                start = converter.start
                other = converter.with_step("dead", "a", "zzzz", "dead").with_step("dead", "a", "z", start)
                self.equal(smallest(other) == smallest(converter), True)
                if converter[start, "a"] is None:
                    trap = converter.with_step(start, "a", "zz", "trap").with_step("trap", "a", "z", "trap")
                    self.equal(smallest(trap) == smallest(converter), True)

    def test_equal_exactly_if_alike(self):
        many = {True: 0, False: 0}
        some = [*SMALL[:45], *EDGES[:12]]
        for one, other in [*product(some, some), *zip(GREAT, GREAT[1:])]:
            told = alike_in_length(one, other)
            self.equal(smallest(one) == smallest(other), told)
            many[told] += 1
        self.assertGreater(min(many.values()), 50)

    def test_one_thing_otherwise(self):
        for converter in [*GREAT[:25], *SMALL[:40]]:
            told = smallest(converter)
            for (state, letter), (answer, to) in list(converter.steps.items())[::2]:
                for other in (converter.without_step(state, letter), converter.with_step(state, letter, answer, converter.start),
                              converter.with_step(state, letter, answer + "y" if len(answer) < 4 else "", to)):
                    self.equal(smallest(other) == told, alike_in_length(converter, other))
            for state in converter.tails:
                for other in (converter.without_tail(state), converter.with_tail(state, "yyyy"[:(len(converter.tails[state]) + 1) % 5])):
                    self.equal(smallest(other) == told, alike_in_length(converter, other))

    def test_the_text_that_parts_them(self):
        for one, other in [*zip(SMALL, SMALL[1:]), *zip(GREAT, GREAT[7:])]:
            text = apart(one, other)
            if text is not None:
                self.assertNotEqual(counted(smallest(one), text), counted(smallest(other), text))


class Counted(Checks):
    def test_of_taken_texts(self):
        for converter in [*SMALL, *EDGES, TWO]:
            told = smallest(converter)
            for n in range(4):
                for text in taken(converter, n):
                    self.equal(counted(told, text), len(converter(text)))

    def test_long_ones(self):
        told = smallest(STUFF)
        self.equal([counted(told, "a" * n) for n in (0, 4, 5, 399, 400)], [0, 4, 6, 399 + 79, 480])
        self.equal(counted(text="n" * 400, lengths=LINES_LENGTHS), 800)
        self.refused(BadWord, ["n" * 401], counted, LINES_LENGTHS, "n" * 401)

    def test_papers_that_smallest_does_not_tell(self):
        told = Lengths(5, {(7, "a"): (1, 2), (0, "b"): (10 ** 30, 7)}, {7: 3, 9: 9})
        self.equal([counted(told, text) for text in ("", "b", "ba", "a", "bb", "z")], [None, 10 ** 30 + 8, None, None, None, None])
        self.equal([counted(Lengths(10 ** 59, {}, {0: 1}), text) for text in ("", "a")], [10 ** 59 + 1, None])
        self.equal([counted(Lengths(0, {}, {}), text) for text in ("", "a")], [None, None])

    def wrong(self, *parts):
        for text in ("", "a", "zz"):
            self.refused(BadPaper, ["lengths"], counted, Lengths(*parts), text)
        self.refused(BadPaper, ["lengths"], counted, Lengths(*parts), None)

    def test_wrong_parts(self):
        steps, tails = {(0, "a"): (1, 0)}, {0: 0}
        self.equal(counted(Lengths(0, steps, tails), "aa"), 2)
        for value in [*ANYTHING, -5]:
            if type(value) is not int or value < 0:
                self.wrong(value, steps, tails)
                self.wrong(0, {(0, "a"): (value, 0)}, tails)
                self.wrong(0, {(0, "a"): (1, value)}, tails)
                self.wrong(0, steps, {0: value})
            if value != {}:
                self.wrong(0, value, tails)
                self.wrong(0, steps, value)
            if not isinstance(value, tuple) or len(value) != 2 or value == ("a", "b"):
                self.wrong(0, {(0, "a"): value}, tails)
        self.equal(counted(Lengths(0, {}, tails), ""), 0)

    def test_wrong_keys(self):
        for key in (True, False, -1, "0", None, (0,), (0, "a"), "a"):
            self.wrong(0, {(0, "a"): (1, 0)}, {0: 0, key: 0} if key is not False else {key: 0})
            self.wrong(0, {(0, "a"): (1, 0), (key, "a"): (1, 0)} if key is not False else {(key, "a"): (1, 0)}, {0: 0})
        for key in ((0, "A"), (0, "ab"), (0, ""), (0, None), (0, 0), (0, True), (0, "a", 0), ("a", 0), (0,), (), "0a", 0, None):
            self.wrong(0, {(0, "a"): (1, 0), key: (1, 0)}, {0: 0})
        for goal in ([1, 0], (1,), (1, 0, 0), 1, None, "10", ("1", 0), (True, 0), (1, False), (-1, 0), (0, -1), {1: 0}):
            self.wrong(0, {(0, "a"): goal}, {0: 0})

    def test_wrong_values(self):
        for value in [*ANYTHING, (0, {}, {}), [0, {}, {}]]:
            if not isinstance(value, Lengths):
                self.refused(BadPaper, ["lengths"], counted, value, "a")
                self.refused(BadPaper, ["lengths"], counted, value, value)
        for value in NO_TEXTS:
            self.refused(BadWord, [value], counted, LINES_LENGTHS, value)
            self.refused(BadWord, [value], counted, text=value, lengths=Lengths(0, {}, {}))

    def test_arguments_stay(self):
        steps, tails = {(0, "a"): (1, 0)}, {0: 0}
        told = Lengths(0, steps, tails)
        counted(told, "aaa")
        steps.clear()
        tails[0] = 5
        self.equal((told.first, told.steps, told.tails, counted(told, "aa")), (0, {(0, "a"): (1, 0)}, {0: 0}, 2))


class Papers(Checks):
    def test_attributes(self):
        for value, other in product(ANYTHING, ANYTHING[::5]):
            paper = Lengths(value, other, value)
            self.equal((paper.first, paper.steps, paper.tails, bool(paper)), (value, other, value, True))
        paper = Lengths(tails=1, steps=2, first=3)
        self.equal((paper.first, paper.steps, paper.tails), (3, 2, 1))

    def test_equal_ones(self):
        for (k, value), (j, other) in product(enumerate(ANYTHING), enumerate(ANYTHING)):
            for one, two in ((Lengths(value, 1, 2), Lengths(other, 1, 2)), (Lengths(1, value, 2), Lengths(1, other, 2)),
                             (Lengths(1, 2, value), Lengths(1, 2, other))):
                self.equal((one == two, one != two), (k == j, k != j))
        for value in [*ANYTHING, (0, {}, {}), None]:
            if not isinstance(value, Lengths):
                self.equal(Lengths(0, {}, {}) == value, False)
        self.equal([Lengths(0, {}, {}) == Lengths(False, {}, {}), Lengths(0, {(0, "a"): (1, 0)}, {}) == Lengths(0, {(0, "a"): (True, 0)}, {}),
                    Lengths(0, {}, {0: 1}) == Lengths(0, {}, {False: 1}), Lengths(0, {}, {1: 2, 3: 4}) == Lengths(0, {}, {3: 4, 1: 2})],
                   [False, False, False, True])


class Packs(Checks):
    def test_more_can_be_counted_for_a_step_than_it_writes(self):
        told = smallest(PACKS)
        self.equal((told.first, told.steps, told.tails), (0, {(0, "a"): (1, 1), (1, "a"): (0, 0)}, {0: 0, 1: 1}))
        self.equal([counted(told, "a" * n) for n in range(4)], [0, 2, 1, 3])
        self.equal(counted(smallest(FINITE), "aa"), 6)
        self.refused(TooMany, ["states", 6], SIX.with_tail, "z", "")
