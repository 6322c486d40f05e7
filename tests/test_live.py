"""headgap/live.py: arrays, cell by cell, and what undo, trials and twins do."""

import random
import time

from headgap.arrays import array_for
from headgap.converters import Converter
from headgap.errors import (
    BadConverter, BadDeed, BadLetter, BadNumber, BadWord, HeadError, NoCell, NoRoom, NoStep, NoTail, Nothing, RunOver, TooMany)
from headgap.gaps import gap, gap_of
from headgap.live import Array
from headgap.logs import first_wrong
from headgap.rings import Ring
from headgap.sizes import text_for
from tests.checks import ANYTHING, LINES, NO_CONVERTERS, NO_INTEGERS, NO_TEXTS, Checks
from tests.plain_live import PlainArray
from tests.plain_sizes import useful_of
from tests.plain_ways import taken
from tests.samples import BOTH, EACH, EDGES, GREAT, JUST_TAIL, NO_TAIL, ODDS, PACKS, PERCENT, SIX, SMALL, STUFF

SEEN = ("state", "reader", "writer", "unread", "written", "is_done", "ahead", "log")
# Half of a ring writes tails, so flushes come at many states.
FLUSHES = Converter.read("@s s:a>x>t s:b>>s s:c>yy>s t:a>>s t:b>xx>t t:c>x>u u:a>>t s$pp t$")


def seen(array):
    """All that can be seen of an array."""
    return {name: getattr(array, name) for name in SEEN}


def outcome(work, *values):
    """What a call returns, or the class and the fields of its error."""
    try:
        return "", work(*values)
    except HeadError as error:
        return type(error).__name__, tuple(vars(error).values())


class Live(Checks):
    def whole(self, array):
        """All that can be seen of an array, its cells, too."""
        return {**seen(array), "cells": list(array), "many": len(array)}

    def stays(self, array, error, fields, work, *values):
        """A call is refused and leaves all as it was, also what undo can take back."""
        before, past = self.whole(array), array.twin()
        self.refused(error, fields, work, *values)
        self.equal(self.whole(array), before)
        self.equal(array == past, True)


class Made(Live):
    def test_cells(self):
        for text in ("", "a", "nan"):
            for ahead in (0, 1, 5):
                for more in (None, 0, 3):
                    size = None if more is None else ahead + len(text) + more
                    array = Array(LINES, text, ahead, size)
                    cells = [None] * ahead + list(text) + [None] * (more or 0)
                    self.equal(self.whole(array), {"state": "s", "reader": ahead, "writer": 0, "unread": text, "written": "",
                                                   "is_done": False, "ahead": ahead, "log": (), "cells": cells, "many": len(cells)})
                    self.equal([array[k] for k in range(len(cells))], cells)
        self.equal(list(Array(size=3, ahead=1, text="n", converter=LINES)), [None, "n", None])
        self.equal([list(Array(LINES, "")), list(Array(LINES, "", 0, 0)), len(Array(LINES, "", 0))], [[], [], 0])

    def test_bounds(self):
        for parts in (("", 1000), ("", 0, 1000), ("", 1000, 1000), ("a" * 400, 600), ("a" * 400, 600, 1000), ("a" * 400, 0, 400)):
            array = Array(LINES, *parts)
            self.equal((len(array), array.unread, array.ahead), (parts[2] if len(parts) > 2 else parts[1] + len(parts[0]), parts[0], parts[1]))
        self.refused(TooMany, ["cells", 1000], Array, LINES, "a", 1000)
        self.refused(TooMany, ["cells", 1000], Array, LINES, "a" * 400, 601)
        self.refused(TooMany, ["cells", 1000], Array, LINES, "a" * 400, 601, None)
        for size in (0, 3, 4, 1000):
            self.refused(NoRoom, [size], Array, LINES, "aaa", size - 2 if size > 2 else size, size)
        self.refused(NoRoom, [1000], Array, LINES, "a", 1000, 1000)
        self.refused(NoRoom, [0], Array, LINES, "", 1, 0)

    def test_wrong_values(self):
        for value in NO_CONVERTERS:
            self.refused(BadConverter, ["converter"], Array, value, "a")
            self.refused(BadConverter, ["converter"], Array, value, value, value, value)
        for value in NO_TEXTS:
            self.refused(BadWord, [value], Array, LINES, value)
            self.refused(BadWord, [value], Array, NO_TAIL, value, -1, -1)
        for value in [*NO_INTEGERS, -1, 1001, 10 ** 30]:
            self.refused(BadNumber, [value], Array, LINES, "a", value)
            self.refused(BadNumber, [value], Array, LINES, "a" * 400, value, value)
            self.refused(BadNumber, [value], Array, LINES, "a", value, -1)
            if value is not None:
                self.refused(BadNumber, [value], Array, LINES, "a", 0, value)
                self.refused(BadNumber, [value], Array, LINES, "a" * 400, 700, value)

    def test_cells_that_are_none(self):
        array = Array(LINES, "an", 1, 5)
        for value in [*NO_INTEGERS, -1, 5, 10 ** 30]:
            self.refused(NoCell, [value], lambda: array[value])
        for value in [*NO_INTEGERS, -1, 6, 10 ** 30]:
            self.refused(NoCell, [value], array.stretch, value, 0)
            self.refused(NoCell, [value], array.stretch, 5, value)
            self.refused(NoCell, [value], array.stretch, value, -9)
        self.equal([array.stretch(0, 5), array.stretch(1, 3), array.stretch(5, 5), array.stretch(4, 1), array.stretch(b=2, a=0)],
                   [(None, "a", "n", None, None), ("a", "n"), (), (), (None, "a")])
        none = Array(LINES, "")
        self.refused(NoCell, [0], lambda: none[0])
        self.equal(none.stretch(0, 0), ())

    def test_iteration(self):
        array = Array(LINES, "na", 1)
        self.equal([[cell for cell in array], tuple(array), list(zip(array, "xyz"))], [[None, "n", "a"], (None, "n", "a"), [(None, "x"), ("n", "y"), ("a", "z")]])
        held = list(array)
        array.step()
        held.append("z")
        self.equal(list(array), ["r", "n", "a"])


class Deeds(Live):
    """Rows of deeds, right and wrong ones, held against the array that is kept in lists beside."""

    def deed(self, chance, array, plain):
        """A call of both arrays, and its values."""
        size = len(array)
        word = chance.choice(("step",) * 6 + ("flush", "flush", "finish", "run", "put", "put", "put", "move", "move", "set", "set", "undo", "undo"))
        values = ()
        if word == "put":
            values = ("".join(chance.choice("abcn") for _ in range(chance.choice((0, 1, 2, 5)))),)
        elif word == "move":
            values = (chance.choice((0, 0, 1, 2, 5, size, 10 ** 30)),)
        elif word == "set":
            values = (chance.choice((array.reader, array.reader + 1, chance.randrange(-1, size + 2))), chance.choice("abcnz"))
        if values and chance.random() < 0.1:
            values = (*values[:-1], chance.choice(ANYTHING))
        elif word == "set" and chance.random() < 0.1:
            values = (chance.choice(ANYTHING), values[1])
        if word == "set":
            return (lambda *told: array.__setitem__(*told)), plain.set, values
        if word == "move" and chance.random() < 0.5:
            return (lambda told: setattr(array, "ahead", told)), plain.move, values
        return getattr(array, word), getattr(plain, word), values

    def held_against(self, chance, array, plain, many):
        kinds = {}
        for _ in range(many):
            work, other, values = self.deed(chance, array, plain)
            before = array.twin()
            told = outcome(work, *values)
            self.equal(told, outcome(other, *values))
            self.equal((seen(array), list(array)), (plain.seen(), plain.cells()))
            if told[0]:
                self.equal(array == before, True)
            kinds[told[0]] = kinds.get(told[0], 0) + 1
        return kinds

    def test_rows_of_deeds(self):
        chance = random.Random(3)
        found = {}
        for k in range(260):
            converter = chance.choice((FLUSHES, LINES, BOTH, STUFF, PACKS, ODDS, *EACH))
            text = "".join(chance.choice([*converter.letters, "a"]) for _ in range(chance.choice((0, 2, 5, 9))))
            ahead = chance.choice((0, 0, 1, 4))
            size = chance.choice((None, len(text) + ahead, len(text) + ahead + chance.randint(0, 12)))
            kinds = self.held_against(chance, Array(converter, text, ahead, size), PlainArray(converter, text, ahead, size), 40)
            for kind in kinds:
                found[kind] = found.get(kind, 0) + kinds[kind]
        self.equal(sorted(found), sorted(["", "BadDeed", "BadLetter", "BadNumber", "BadWord", "NoCell", "NoRoom", "NoStep", "NoTail", "Nothing", "RunOver"]))
        self.assertGreater(min(found.values()), 9)

    def test_undo_leads_back(self):
        chance = random.Random(4)
        for k in range(60):
            converter = chance.choice((FLUSHES, LINES, BOTH, STUFF, *EDGES))
            text = "".join(chance.choice([*converter.letters, "a"]) for _ in range(6))
            array, plain = Array(converter, text, 4, 30), PlainArray(converter, text, 4, 30)
            before = [array.twin()]
            for _ in range(30):
                work, other, values = self.deed(chance, array, plain)
                many = len(array.log)
                outcome(work, *values)
                outcome(other, *values)
                if len(array.log) > many:
                    before.append(array.twin())
                elif len(array.log) < many:
                    before.pop()
            while array.log:
                self.equal([array == before[-1], self.whole(array) == self.whole(before.pop())], [True, True])
                self.equal(array.undo(), None)
            self.equal([array == before[-1], array == Array(converter, text, 4, 30), len(before)], [True, True, 1])
            self.stays(array, Nothing, [], array.undo)

    def test_a_log_can_be_played_again(self):
        chance = random.Random(5)
        for k in range(80):
            converter = chance.choice((FLUSHES, LINES, BOTH, STUFF, PACKS))
            text = "".join(chance.choice(converter.letters) for _ in range(8))
            array, plain = Array(converter, text, 3, 40), PlainArray(converter, text, 3, 40)
            self.held_against(chance, array, plain, 25)
            again = Array(converter, text, 3, 40)
            for deed in array.log:
                word, *values = deed.split(" ")
                if word == "set":
                    again[int(values[0])] = values[1]
                elif word == "ahead":
                    again.ahead = int(values[0])
                else:
                    getattr(again, word)(*values)
            self.equal([again == array, self.whole(again) == self.whole(array)], [True, True])


class Steps(Live):
    def test_run_over_and_no_room(self):
        short = Array(LINES, "nn")
        self.stays(short, RunOver, [1], short.step)
        self.stays(short, RunOver, [1], short.run)
        last = Array(LINES, "n")
        self.stays(last, NoRoom, [1], last.step)
        wide = Converter.read("@s s:a>wxyz>s s:b>>s s$wxyz")
        array = Array(wide, "aa", 2, 9)
        self.stays(array, RunOver, [3], array.step)
        array = Array(wide, "ba", 2, 9)
        self.equal([array.step(), array.step(), array.writer, array.reader], ["", "wxyz", 4, 4])
        self.equal([array.finish(), array.is_done, array.reader], ["wxyzwxyz", True, 8])
        array = Array(wide, "ba", 2, 7)
        array.step()
        array.step()
        self.stays(array, NoRoom, [7], array.finish)
        self.stays(array, NoRoom, [7], array.flush)
        self.stays(array, NoRoom, [7], array.run)

    def test_the_letter_that_is_read_leaves_its_cell(self):
        array = Array(PACKS, "aaa", 1, 6)
        self.equal([array.step(), list(array), array.step(), list(array), array.reader], ["", [None, None, "a", "a", None, None], "b", ["b", None, None, "a", None, None], 3])

    def test_letters_without_steps(self):
        array = Array(PERCENT, "xpz", 0, 9)
        array.step()
        array.step()
        self.stays(array, NoStep, [2, "u"], array.step)
        self.stays(array, NoStep, [2, "u"], array.run)
        self.stays(array, NoTail, ["u"], array.flush)
        array[2] = "f"
        self.equal([array.step(), array.state], ["", "v"])
        self.stays(array, NoTail, ["v"], array.finish)
        self.stays(array, NoTail, ["v"], array.run)
        # Letters are counted on behind a flush, and those of steps that are taken back are not.
        array = Array(LINES, "az", 0, 9)
        array.step()
        array.flush()
        self.stays(array, NoStep, [1, "s"], array.step)
        array.undo()
        array.undo()
        array[0] = "z"
        self.stays(array, NoStep, [0, "s"], array.step)
        self.stays(array, NoStep, [0, "s"], array.run)

    def test_flush_ahead_of_unread_letters(self):
        array = Array(JUST_TAIL.with_step("s", "a", "x", "s"), "aa", 3, 20)
        self.stays(array, RunOver, [3], array.flush)
        array.move(4)
        self.equal([array.flush(), array.ahead, array.state], ["abcd", 0, "s"])
        self.stays(array, RunOver, [4], array.flush)
        self.equal([array.step(), array.step(), array.flush(), array.reader, array.writer, array.ahead], ["x", "x", "abcd", 10, 10, 0])

    def test_a_flush_begins_again(self):
        array = Array(ODDS, "aaa", 4, 9)
        self.equal([array.step(), array.flush(), array.state, array.step(), array.flush(), array.step(), array.finish()],
                   ["bb", "c", "s", "bb", "c", "bb", "bbcbbcbbc"])
        self.equal([array.state, array.is_done, array.unread], ["t", True, ""])

    def test_done(self):
        array = Array(LINES, "a", 0, 9)
        array.run()
        for work, values in ((array.step, ()), (array.flush, ()), (array.finish, ()), (array.run, ()), (array.put, ("a",)), (array.put, (None,)),
                             (array.put, ("a" * 400,)), (array.move, (0,)), (array.move, (10 ** 30,)), (setattr, (array, "ahead", 0))):
            self.stays(array, BadDeed, ["done"], work, *values)
        self.stays(array, BadNumber, [-1], array.move, -1)
        self.stays(array, BadDeed, ["read"], array.__setitem__, 0, "a")
        self.stays(array, NoCell, [9], array.__setitem__, 9, "a")
        array.undo()
        self.equal([array.is_done, array.put("n"), array.run()], [False, None, "arn"])

    def test_no_letter_unread(self):
        array = Array(LINES, "", 2, 5)
        self.stays(array, BadDeed, ["letters"], array.step)
        self.equal([array.reader, array.ahead, array.put("na"), array.unread, list(array)], [2, 2, None, "na", [None, None, "n", "a", None]])
        self.stays(array, BadDeed, ["letters"], array.finish)
        self.equal([array.run(), array.reader, array.ahead], ["rna", 4, 1])
        self.equal([Array(LINES, "").run(), Array(JUST_TAIL, "", 0, 4).run(), Array(JUST_TAIL, "", 4).run()], ["", "abcd", "abcd"])

    def test_run_is_one_deed(self):
        array = Array(LINES, "nan", 2, 9)
        array.step()
        self.equal([array.run(), array.log, array.undo(), array.unread, array.written, array.log], ["rnarn", ("step", "run"), None, "an", "rn", ("step",)])
        self.equal([array.undo(), array.unread, list(array)], [None, "nan", [None, None, "n", "a", "n", None, None, None, None]])

    def test_put_by_pieces(self):
        for converter, text in ((BOTH, "nbanb"), (STUFF, "aaaaabaaaaaa"), (FLUSHES, "abbaab")):
            whole = Array(converter, text, 9, 60)
            for at in range(len(text) + 1):
                parts = Array(converter, text[:at], 9, 60)
                parts.put("")
                for letter in text[at:]:
                    if at % 2 and parts.unread:
                        parts.step()
                    parts.put(letter)
                self.equal([parts.run(), parts.written], [whole.twin().run(), converter(text)])


class States(Live):
    """What array.state tells, moment by moment, of a converter in which each deed leads elsewhere."""

    WAY = Converter.read("@s s:a>x>t s:z>yyyy>s t:a>>u t:b>x>s u:a>x>u s$ t$pp")

    def array(self):
        return Array(self.WAY, "aab", 1, 9)

    def test_behind_each_deed(self):
        array = self.array()
        found = [array.state]
        for work in (array.step, lambda: array.put("a"), lambda: array.__setitem__(3, "a"), lambda: array.move(3), array.flush, array.step, array.undo, array.undo,
                     array.step, lambda: setattr(array, "ahead", 4)):
            work()
            found.append(array.state)
        self.equal(found, ["s", "t", "t", "t", "t", "s", "t", "s", "t", "u", "u"])
        done = Array(self.WAY, "aba", 1, 9)
        self.equal([done.run(), done.state, done.undo(), done.state, done.step(), done.step(), done.step(), done.finish(), done.state],
                   ["xxxpp", "t", None, "s", "x", "x", "x", "xxxpp", "t"])

    def test_behind_a_refused_deed(self):
        array = self.array()
        array.step()
        array.step()
        for error, fields, work in ((NoStep, [2, "u"], array.step), (NoTail, ["u"], array.flush), (BadDeed, ["letters"], array.finish),
                                    (NoStep, [2, "u"], array.run), (BadNumber, [-1], lambda: array.move(-1)), (BadWord, [7], lambda: array.put(7))):
            self.stays(array, error, fields, work)
            self.equal(array.state, "u")
        over = Array(self.WAY, "zz")
        self.stays(over, RunOver, [1], over.step)
        self.equal([over.state, array.undo(), array.state, array.undo(), array.state], ["s", None, "t", None, "s"])
        self.refused(Nothing, [], array.undo)
        self.equal(array.state, "s")

    def test_behind_a_trial_and_of_a_twin(self):
        array = self.array()
        array.step()
        twin = array.twin()
        with array.trial() as held:
            held.step()
            within = held.twin()
            self.equal([held.state, array.state, twin.state, within.state], ["u", "u", "t", "u"])
            held.undo()
            held.undo()
            self.equal([array.state, within.state], ["s", "u"])
        self.equal([array.state, array.tried(lambda held: held.step() + held.state), array.state], ["t", "u", "t"])
        with self.assertRaises(NoStep):
            array.tried(Array.run)
        self.equal([array.state, twin.step(), twin.state, array.state, twin.undo(), twin.state], ["t", "", "u", "t", None, "t"])

    def test_attributes_of_this_name(self):
        # Errors and papers keep any values in it, whatever an array tells.
        for value in ANYTHING:
            for error in (NoStep(3, value), NoStep(at=3, state=value), NoTail(value), NoTail(state=value)):
                self.assertIs(error.state, value)
            for ring in (Ring(value, "a"), Ring(state=value, text="a")):
                self.equal([ring.state, list(vars(ring))], [value, ["state", "text"]])

    def test_it_cannot_be_assigned(self):
        array = self.array()
        for value in ("t", "s", None):
            self.assertRaises(AttributeError, setattr, array, "state", value)
            self.equal([array.state, array.log], ["s", ()])


class Puts(Live):
    def test_four_hundred_letters(self):
        array = Array(LINES, "a" * 399, 0, 1000)
        self.stays(array, TooMany, ["letters", 400], array.put, "aa")
        self.equal([array.put("n"), len(array.unread)], [None, 400])
        self.stays(array, TooMany, ["letters", 400], array.put, "a")
        self.stays(array, BadWord, ["a" * 401], array.put, "a" * 401)
        self.stays(array, BadWord, [None], array.put, None)
        self.equal([array.put(""), array.undo(), array.undo(), array.put("aa"[:1])], [None] * 4)
        # Also those that were read and written count, and those of puts that are taken back do not.
        array.run()
        array.undo()
        for _ in range(400):
            array.step()
        self.stays(array, TooMany, ["letters", 400], array.put, "a")
        self.stays(Array(LINES, "a" * 400), TooMany, ["letters", 400], Array(LINES, "a" * 400).put, "a")

    def test_order_of_the_errors(self):
        array = Array(LINES, "a" * 398)
        self.stays(array, TooMany, ["letters", 400], array.put, "aaa")
        self.stays(array, NoRoom, [398], array.put, "aa")
        self.stays(array, BadWord, ["a" * 401], array.put, "a" * 401)
        self.equal(array.put(text=""), None)

    def test_behind_a_flush(self):
        late = Array(LINES, "n", 0, 4)
        self.equal([late.step(), late.reader, late.writer, late.ahead], ["rn", 2, 2, 0])
        self.equal([late.put("a"), late.reader, late.undo(), late.flush(), late.reader, late.put("na"), list(late)],
                   [None, 2, None, "", 2, None, ["r", "n", "n", "a"]])
        array = Array(ODDS, "a", 0, 8)
        self.equal([array.step(), array.flush(), array.reader, array.put("a"), array[3], array.reader], ["bb", "c", 3, None, "a", 3])
        # The cells that letters have left stay free up to the reader.
        array = Array(PACKS, "aa", 3, 8)
        array.step()
        array.step()
        self.equal([array.writer, array.reader, array.ahead, array.put("a"), array[5], array[1]], [1, 5, 4, None, "a", None])

    def test_no_room(self):
        array = Array(LINES, "an", 1, 5)
        self.stays(array, NoRoom, [5], array.put, "aaa")
        self.equal([array.put("aa"), array.put("")], [None, None])
        self.stays(array, NoRoom, [5], array.put, "a")
        none = Array(LINES, "")
        self.equal([none.put(""), none.log], [None, ("put ",)])
        self.stays(none, NoRoom, [0], none.put, "a")
        self.equal([none.move(0), none.flush(), none.finish()], [None, "", ""])

    def test_words(self):
        array = Array(LINES, "an", 2, 9)
        array.put("na")
        array.put("")
        array[3] = "a"
        array[3] = "a"
        array.ahead = 3
        array.move(ahead=1)
        array.step()
        array.flush()
        self.equal(array.log, ("put na", "put ", "set 3 a", "set 3 a", "ahead 3", "ahead 1", "step", "flush"))
        array.run()
        array.undo()
        self.equal(array.log[-2:], ("step", "flush"))

    def test_wrong_values(self):
        array = Array(LINES, "an", 2, 9)
        for value in NO_TEXTS:
            self.stays(array, BadWord, [value], array.put, value)


class Cells(Live):
    def test_another_letter(self):
        array = Array(LINES, "aan", 1, 6)
        array.step()
        for cell in (0, 1, 4, 5):
            self.stays(array, BadDeed, ["read"], array.__setitem__, cell, "a")
            self.stays(array, BadDeed, ["read"], array.__setitem__, cell, None)
        array[2] = "n"
        array[3] = "z"
        self.equal([array.unread, array.written, array.reader], ["nz", "a", 2])

    def test_wrong_values(self):
        array = Array(LINES, "aan", 1, 6)
        for value in [*NO_INTEGERS, -1, 6, 10 ** 30]:
            self.stays(array, NoCell, [value], array.__setitem__, value, "a")
            self.stays(array, NoCell, [value], array.__setitem__, value, None)
        for value in ANYTHING:
            if value != "a":
                self.stays(array, BadLetter, [value], array.__setitem__, 2, value)
        array[2] = "a"
        self.equal(array.log, ("set 2 a",))


class Moves(Live):
    def test_letters(self):
        array = Array(LINES, "nan", 1, 6)
        for ahead in (3, 0, 1, 2):
            array.ahead = ahead
            cells = [None] * ahead + list("nan") + [None] * (3 - ahead)
            self.equal([list(array), array.ahead, array.reader, array.unread], [cells, ahead, ahead, "nan"])
        self.equal(array.log, ("ahead 3", "ahead 0", "ahead 1", "ahead 2"))
        array.step()
        self.equal([array.ahead, array.move(2), list(array)], [1, None, ["r", "n", None, None, "a", "n"]])
        self.stays(array, NoRoom, [6], array.move, 3)
        self.stays(array, NoRoom, [6], setattr, array, "ahead", 10 ** 30)
        self.equal([array.move(0), list(array), array.undo(), list(array)], [None, ["r", "n", "a", "n", None, None], None, ["r", "n", None, None, "a", "n"]])

    def test_the_reader_alone(self):
        array = Array(LINES, "", 2, 5)
        array.ahead = 5
        self.equal([array.reader, array.ahead, list(array), array.put("")], [5, 5, [None] * 5, None])
        self.stays(array, NoRoom, [5], array.put, "a")
        array.ahead = 0
        self.equal([array.reader, array.put("a"), list(array)], [0, None, ["a", None, None, None, None]])
        late = Array(LINES, "n", 0, 4)
        late.step()
        self.equal([late.move(2), late.reader, late.ahead, late.flush(), late.reader], [None, 4, 2, "", 4])
        self.stays(late, NoRoom, [4], late.move, 3)

    def test_in_place(self):
        array = Array(LINES, "a", 1, 6)
        array.ahead += 2
        self.equal([array.ahead, array.log], [3, ("ahead 3",)])
        array.ahead -= 3
        self.equal(list(array), ["a", None, None, None, None, None])

    def test_wrong_values(self):
        array = Array(LINES, "an", 2, 9)
        for value in [*NO_INTEGERS, -1, -10 ** 30]:
            self.stays(array, BadNumber, [value], array.move, value)
            self.stays(array, BadNumber, [value], setattr, array, "ahead", value)
        done = Array(LINES, "", 0, 3)
        done.finish()
        self.stays(done, BadNumber, [None], done.move, None)

    def test_no_other_property_can_be_assigned(self):
        array = Array(LINES, "an", 2, 9)
        for name in SEEN:
            if name != "ahead":
                self.assertRaises(AttributeError, setattr, array, name, getattr(array, name))


class ManyDeeds(Live):
    def full(self, many):
        array = Array(LINES, "nn", 1, 9)
        for k in range(many):
            array.move(k % 2)
        return array

    def test_a_thousand(self):
        array = self.full(999)
        array.move(1)
        self.equal([len(array.log), array.ahead], [1000, 1])
        for work, values in ((array.step, ()), (array.put, ("a",)), (array.put, ("",)), (array.move, (0,)),
                             (array.__setitem__, (1, "a")), (setattr, (array, "ahead", 0))):
            self.stays(array, TooMany, ["deeds", 1000], work, *values)
        array.undo()
        array.undo()
        self.equal([array.ahead, array.move(1), array.step(), len(array.log)], [1, None, "rn", 1000])
        self.stays(array, TooMany, ["deeds", 1000], array.flush)

    def test_the_errors_of_the_call_come_first(self):
        array = self.full(1000)
        self.equal(len(array.log), 1000)
        array.undo()
        array.move(0)
        for error, fields, work, values in (
                (RunOver, [1], array.step, ()), (RunOver, [1], array.run, ()), (BadDeed, ["letters"], array.finish, ()),
                (BadWord, [None], array.put, (None,)), (TooMany, ["letters", 400], array.put, ("a" * 399,)), (NoRoom, [9], array.put, ("a" * 8,)),
                (BadNumber, [-1], array.move, (-1,)), (NoRoom, [9], array.move, (8,)), (NoCell, [9], array.__setitem__, (9, "a")),
                (BadDeed, ["read"], array.__setitem__, (5, "a")), (BadLetter, ["A"], array.__setitem__, (0, "A"))):
            self.stays(array, error, fields, work, *values)
        self.stays(array, TooMany, ["deeds", 1000], array.flush)

    def test_a_run_is_one_deed(self):
        array = self.full(999)
        array.undo()
        array.undo()
        self.equal([array.ahead, len(array.log)], [0, 997])
        array.move(2)
        array.put("a" * 5)
        self.equal([array.run(), len(array.log)], ["rnrnaaaaa", 1000])
        array.undo()
        array.put("")
        self.stays(array, TooMany, ["deeds", 1000], array.run)

    def test_a_trial_counts_them_too(self):
        array = self.full(1000)
        with array.trial() as held:
            self.refused(TooMany, ["deeds", 1000], held.put, "")
            held.undo()
            held.put("")
            self.refused(TooMany, ["deeds", 1000], held.put, "")
        self.equal([len(array.log), array.log[-1]], [1000, "ahead 1"])


class Trials(Live):
    def test_all_is_as_it_was(self):
        array = Array(LINES, "nan", 2, 12)
        array.step()
        before, log = self.whole(array), array.log
        with array.trial() as held:
            self.assertIs(held, array)
            held.step()
            held.put("nn")
            held[4] = "a"
            held.undo()
            held.undo()
            held.undo()
            held.undo()
            self.equal([held.log, held.unread], [(), "nan"])
            held.move(5)
            held.run()
            self.equal(held.is_done, True)
        self.equal([self.whole(array), array.log], [before, log])
        self.equal([array.undo(), array.log, array.unread], [None, (), "nan"])

    def test_within_one_another(self):
        array = Array(LINES, "nan", 2, 12)
        with array.trial() as outer:
            outer.step()
            with array.trial() as inner:
                inner.step()
                inner.step()
                with inner.trial():
                    inner.finish()
                self.equal([inner.log, inner.is_done], [("step",) * 3, False])
            self.equal([outer.log, outer.unread], [("step",), "an"])
            outer.put("a")
            with array.trial():
                array.undo()
                array.undo()
            self.equal(outer.log, ("step", "put a"))
        self.equal([array.log, array.unread], [(), "nan"])

    def test_one_trial_several_times(self):
        array = Array(LINES, "nan", 2, 12)
        trial = array.trial()
        for _ in range(3):
            with trial:
                array.step()
                with trial:
                    array.step()
                    with trial as held:
                        held.step()
                    self.equal(array.log, ("step",) * 2)
                self.equal(array.log, ("step",))
            self.equal(array.log, ())
            array.put("a")
            array.undo()
        # What counts is when the block begins.
        array.step()
        with trial:
            array.run()
        self.equal(array.log, ("step",))

    def test_errors_go_on(self):
        for error, work in ((RunOver, lambda held: held.move(0) or held.step()), (KeyError, lambda held: held.step() and {}[0]),
                            (Nothing, lambda held: [held.undo() for _ in range(3)]), (ZeroDivisionError, lambda held: held.run() and 1 // 0),
                            (KeyboardInterrupt, self.interrupted)):
            array = Array(LINES, "nan", 2, 12)
            array.put("a")
            before, twin = self.whole(array), array.twin()
            with self.assertRaises(error):
                with array.trial() as held:
                    with held.trial():
                        work(held)
            self.equal([self.whole(array), array == twin], [before, True])
            with self.assertRaises(error):
                array.tried(work)
            self.equal([self.whole(array), array == twin], [before, True])

    def interrupted(self, held):
        held.step()
        raise KeyboardInterrupt

    def test_tried(self):
        array = Array(LINES, "nan", 2, 12)
        self.equal([array.tried(lambda held: held.run()), array.log, array.tried(work=lambda held: held.log)], ["rnarn", (), ()])
        self.assertIs(array.tried(lambda held: held), array)
        self.equal(array.tried(lambda held: [held.step(), held.tried(lambda inner: [inner.step(), inner.log]), held.log]),
                   ["rn", ["a", ("step",) * 2], ("step",)])
        self.equal([array.tried(lambda held: None), array.tried(Array.flush), array.tried(len), array.unread], [None, "", 12, "nan"])

    def test_a_return_out_of_the_block(self):
        array = Array(LINES, "nan", 2, 12)

        def first(many):
            for _ in range(many):
                with array.trial() as held:
                    return held.step()

        self.equal([first(1), first(1), array.log], ["rn", "rn", ()])


class Twins(Live):
    def test_they_go_their_own_ways(self):
        array = Array(LINES, "nan", 2, 12)
        array.step()
        twin = array.twin()
        self.assertIs(type(twin), Array)
        self.assertIsNot(twin, array)
        self.equal([twin == array, self.whole(twin) == self.whole(array), twin.log], [True, True, ("step",)])
        twin.put("a")
        twin[3] = "n"
        self.equal([array.unread, twin.unread, array == twin, array.log], ["an", "nna", False, ("step",)])
        array.run()
        self.equal([array.is_done, twin.is_done, twin.undo(), twin.undo(), twin.undo(), twin.unread, array.written], [True, False, None, None, None, "nan", "rnarn"])
        self.refused(Nothing, [], twin.undo)
        array.undo()
        array.undo()
        self.equal([array == twin, array.log], [True, ()])

    def test_out_of_a_trial(self):
        array = Array(LINES, "nan", 2, 12)
        with array.trial() as held:
            held.step()
            twin = held.twin()
        self.equal([twin.log, array.log, twin.step(), array.unread, twin.undo(), twin.undo(), twin == array], [("step",), (), "a", "nan", None, None, True])
        with twin.trial():
            array.step()
        self.equal([twin.log, array.log], [(), ("step",)])


class Equal(Live):
    def test_what_counts(self):
        array = Array(LINES, "an", 1, 5)
        same = Array(Converter.read(str(LINES)), "an", 0, 5)
        self.equal(array == same, False)
        same.move(1)
        self.equal([array == same, array != same, array.log == same.log], [True, False, False])
        others = [Array(LINES, "an", 1, 6), Array(LINES, "an", 1, 4), Array(LINES, "aa", 1, 5), Array(LINES, "a", 1, 5), Array(LINES, "an", 2, 5),
                  Array(LINES.with_tail("s", "q"), "an", 1, 5), Array(LINES.with_tail("t", ""), "an", 1, 5)]
        self.equal([array == other for other in others], [False] * 7)

    def test_each_part(self):
        # The same cells, with another state, reader, writer, or the one done.
        flat = Converter.read("@s s:a>>t s:b>>s t:a>>s s$ t$")
        one, other = Array(flat, "a", 0, 3), Array(flat, "b", 0, 3)
        one.step()
        other.step()
        self.equal([one == other, one.state, list(one) == list(other)], [False, "t", True])
        other.put("a")
        other.step()
        other.move(1)
        self.equal([one.reader, other.reader, one == other], [1, 1, True])
        other.move(2)
        self.equal([one == other, list(one) == list(other)], [False, True])
        other.undo()
        other.finish()
        self.equal([one == other, one.finish(), one == other], [False, "", True])
        # A free cell that is written, and a letter that lies there unread.
        same = LINES.with_step("s", "b", "", "s")
        one, other = Array(same, "a", 0, 2), Array(same, "ba", 0, 2)
        one.step()
        other.step()
        other.move(0)
        self.equal([list(one) == list(other), one.writer, other.writer, one == other], [True, 1, 0, False])

    def test_other_values(self):
        array = Array(LINES, "ana", 2)
        for value in [*ANYTHING, list(array), "ana"]:
            self.equal([array == value, array != value], [False, True])
        self.equal([Array(LINES, "ana", 1) == value for value in ANYTHING].count(True), 1)

    def test_papers_keep_what_an_array_was(self):
        array = Array(LINES, "ana", 1)
        paper, other = Ring(array, [array]), Ring(array.twin(), [array.twin()])
        self.equal([paper.state == array, paper == other], [True, True])
        array.step()
        self.equal([paper.state == array, paper == other, paper.text[0].log], [False, True, ()])


class Facts(Live):
    def test_enough_cells_ahead(self):
        for converter in EACH:
            if not useful_of(converter) or not gap(converter):
                continue
            told = gap(converter)
            if told.number > 0:
                array = Array(converter, told.text, told.number - 1, min(1000, 5 * len(told.text) + told.number + 9))
                with self.assertRaises(RunOver):
                    array.run()
            for n in range(4):
                for text in taken(converter, n):
                    array = Array(converter, text, told.number, told.number + 5 * n + 9)
                    self.equal(array.run(), converter(text))

    def test_the_gap_of_a_text(self):
        for converter in SMALL:
            for n in range(4):
                for text in taken(converter, n)[:20]:
                    ahead = gap_of(converter, text)
                    self.equal(Array(converter, text, ahead, ahead + 5 * n + 9).run(), converter(text))
                    if ahead > 0:
                        array = Array(converter, text, ahead - 1, ahead + 5 * n + 9)
                        self.assertRaises(RunOver, array.run)

    def test_the_array_for_a_length(self):
        for converter in [*EDGES, *SMALL[:60], *GREAT[:20]]:
            growth = array_for(converter)
            for n in (0, 1, 2, 3, 30, 100, 150):
                if n in growth and growth[n] <= 1000:
                    text = text_for(converter, n)
                    size = growth[n]
                    self.equal(Array(converter, text, size - n, size).run(), converter(text))
                    if n < 4:
                        for text in taken(converter, n):
                            self.equal(Array(converter, text, size - n).run(), converter(text))
                        if size > n:
                            self.assertFalse(all(outcome(Array(converter, text, size - 1 - n).run)[0] == "" for text in taken(converter, n)))

    def test_steps_explain_the_log(self):
        for converter in (LINES, STUFF, BOTH, SIX):
            array = Array(converter, text_for(converter, 12), 60, 120)
            log = []
            for k in range(12):
                array.step()
                log.append((k + 1, array.writer))
            self.equal(first_wrong(converter, log), None)

    def test_time(self):
        begun = time.perf_counter()
        array = Array(LINES, "n" * 400, 500, 1000)
        for _ in range(400):
            array.step()
        for _ in range(400):
            array.undo()
        for _ in range(400):
            array.move(499)
            array.undo()
        for _ in range(10):
            array.tried(lambda held: held.run())
        self.assertLess(time.perf_counter() - begun, 1)
