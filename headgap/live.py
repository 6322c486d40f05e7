"""Arrays: a text is converted within one array, step by step, and what was done can be taken back."""

from headgap.errors import (
    BadDeed, BadLetter, BadNumber, BadWord, NoCell, NoRoom, NoStep, NoTail, Nothing, RunOver, TooMany)
from headgap.kinds import LONGEST_TEXT, is_count, is_letter, is_text
from headgap.ways import check_converter

MOST_CELLS = 1000
MOST_DEEDS = 1000


class Place:
    """How an array stands. Deeds change a copy of it alone, so those that are kept stay as they are."""

    def __init__(self, cells, name, front, left):
        self.cells = cells
        self.name = name
        self.front = front
        self.left = left
        self.pen = 0
        self.passed = 0
        self.given = left
        self.closed = False


def copy_of(place):
    """A place that can be changed."""
    found = Place(list(place.cells), place.name, place.front, place.left)
    found.pen = place.pen
    found.passed = place.passed
    found.given = place.given
    found.closed = place.closed
    return found


def check_open(place):
    """Raises BadDeed if the array is done."""
    if place.closed:
        raise BadDeed("done")


def reader_of(place):
    """The cell of the reader: behind the last letter the writer can be ahead of it."""
    return max(int(place.front), place.pen)


def write(place, answer):
    """Writes an answer; raises RunOver, NoRoom."""
    for letter in answer:
        if place.pen == len(place.cells):
            raise NoRoom(place.pen)
        # From the writer on all cells are free but those of the unread letters.
        if place.cells[place.pen] is not None:
            raise RunOver(place.pen)
        place.cells[place.pen] = letter
        place.pen += 1


def write_tail(converter, place):
    """Writes the tail of the state and returns it; raises NoTail, RunOver, NoRoom."""
    if place.name not in converter.tails:
        raise NoTail(place.name)
    write(place, converter.tails[place.name])
    return converter.tails[place.name]


def take_step(converter, place):
    """Reads the next letter, and writes and returns the answer; raises BadDeed, NoStep, RunOver, NoRoom."""
    check_open(place)
    if place.left == 0:
        raise BadDeed("letters")
    key = (place.name, place.cells[place.front])
    if key not in converter.steps:
        raise NoStep(place.passed, place.name)
    answer, to = converter.steps[key]
    place.cells[place.front] = None
    place.front += 1
    place.left -= 1
    place.passed += 1
    place.name = to
    write(place, answer)
    return answer


def close(converter, place):
    """Writes the tail behind the last letter, and returns all that is written; raises BadDeed, NoTail, NoRoom."""
    check_open(place)
    if place.left > 0:
        raise BadDeed("letters")
    write_tail(converter, place)
    place.closed = True
    return "".join(place.cells[:place.pen])


class Kept:
    """What an array was when a trial began, and what an outer block of the same trial keeps."""

    def __init__(self, place, past, outer):
        self.place = place
        self.past = past
        self.outer = outer


class Trial:
    """A block behind which an array is as it was when the block began."""

    def __init__(self, array):
        self.array = array
        self.kept = None

    def __enter__(self):
        self.kept = Kept(self.array.place, self.array.past, self.kept)
        return self.array

    def __exit__(self, kind, value, trace):
        array = self.array
        array.place = self.kept.place
        array.past = self.kept.past
        self.kept = self.kept.outer


class Array:
    """An array that holds a text, free cells and what is written; it changes."""

    def __init__(self, converter, text, ahead=0, size=None):
        check_converter(converter)
        if not is_text(text):
            raise BadWord(text)
        if not is_count(ahead) or ahead > MOST_CELLS:
            raise BadNumber(ahead)
        if size is not None and (not is_count(size) or size > MOST_CELLS):
            raise BadNumber(size)
        needed = ahead + len(text)
        if size is not None and needed > size:
            raise NoRoom(size)
        if needed > MOST_CELLS:
            raise TooMany("cells", MOST_CELLS)
        rest = 0 if size is None else size - needed
        self.converter = converter
        self.place = Place([None] * ahead + list(text) + [None] * rest, converter.start, ahead, len(text))
        self.past = ()

    @property
    def state(self):
        """The state that is come to."""
        return self.place.name

    # Errors and rings are assigned attributes of this name, and then the language wants a setter of each such property.
    @state.setter
    def state(self, value):
        raise AttributeError("the state of an array is not assigned")

    @property
    def reader(self):
        """The cell of the next unread letter; the cell behind all that was read or written, if there is none."""
        return reader_of(self.place)

    @property
    def writer(self):
        """The cell that is written next."""
        return self.place.pen

    @property
    def unread(self):
        """The text of the unread letters."""
        return "".join(self.place.cells[self.place.front:self.place.front + self.place.left])

    @property
    def written(self):
        """The text of the cells below the writer."""
        return "".join(self.place.cells[:self.place.pen])

    @property
    def is_done(self):
        """Whether the array is finished."""
        return self.place.closed

    @property
    def log(self):
        """The tuple of the deeds that are not taken back."""
        return tuple([deed for deed, place in self.past])

    @property
    def ahead(self):
        """How many cells lie from the writer to the reader."""
        return reader_of(self.place) - self.place.pen

    @ahead.setter
    def ahead(self, value):
        self.move(value)

    def become(self, deed, place):
        """Is as it stands behind a deed, which can be taken back; raises TooMany."""
        if len(self.past) == MOST_DEEDS:
            raise TooMany("deeds", MOST_DEEDS)
        self.past = (*self.past, (deed, self.place))
        self.place = place

    def stretch(self, a, b):
        """The tuple of the cells a to b - 1."""
        for value in (a, b):
            if not is_count(value) or value > len(self.place.cells):
                raise NoCell(value)
        return tuple(self.place.cells[a:b])

    def step(self):
        """Reads the next letter and writes the answer of its step; returns this answer."""
        place = copy_of(self.place)
        answer = take_step(self.converter, place)
        self.become("step", place)
        return answer

    def flush(self):
        """Writes the tail, and begins from the start again; returns the tail."""
        place = copy_of(self.place)
        check_open(place)
        tail = write_tail(self.converter, place)
        place.name = self.converter.start
        self.become("flush", place)
        return tail

    def finish(self):
        """Writes the tail behind the last letter, and is done; returns all that is written."""
        place = copy_of(self.place)
        written = close(self.converter, place)
        self.become("finish", place)
        return written

    def run(self):
        """Steps as long as there are letters, then finishes; returns all that is written."""
        place = copy_of(self.place)
        while place.left > 0:
            take_step(self.converter, place)
        written = close(self.converter, place)
        self.become("run", place)
        return written

    def put(self, text):
        """Puts letters behind the last one."""
        place = copy_of(self.place)
        check_open(place)
        if not is_text(text):
            raise BadWord(text)
        if place.given + len(text) > LONGEST_TEXT:
            raise TooMany("letters", LONGEST_TEXT)
        if place.left == 0:
            place.front = reader_of(place)
        end = place.front + place.left
        if end + len(text) > len(place.cells):
            raise NoRoom(len(place.cells))
        place.cells[end:end + len(text)] = list(text)
        place.left = place.left + len(text)
        place.given = place.given + len(text)
        self.become(f"put {text}", place)

    def move(self, ahead):
        """Moves the reader and the unread letters to where so many cells lie ahead of them."""
        if not is_count(ahead):
            raise BadNumber(ahead)
        place = copy_of(self.place)
        check_open(place)
        front = place.pen + ahead
        if front + place.left > len(place.cells):
            raise NoRoom(len(place.cells))
        letters = place.cells[place.front:place.front + place.left]
        place.cells[place.front:place.front + place.left] = [None] * place.left
        place.cells[front:front + place.left] = letters
        place.front = front
        self.become(f"ahead {ahead}", place)

    def undo(self):
        """Takes back the last deed that was not taken back."""
        if len(self.past) == 0:
            raise Nothing()
        _, place = self.past[-1]
        self.place = place
        self.past = self.past[:-1]

    def trial(self):
        """A block behind which all is as it was when it began."""
        return Trial(self)

    def tried(self, work):
        """What a function returns for the array, in a trial."""
        with self.trial() as held:
            return work(held)

    def twin(self):
        """An equal array with the same deeds to take back, which changes by itself."""
        array = Array(self.converter, "")
        array.place = self.place
        array.past = self.past
        return array

    def __len__(self):
        return len(self.place.cells)

    def __iter__(self):
        return iter(self.place.cells)

    def __getitem__(self, at):
        if not is_count(at) or at >= len(self.place.cells):
            raise NoCell(at)
        return self.place.cells[at]

    def __setitem__(self, at, worth):
        if not is_count(at) or at >= len(self.place.cells):
            raise NoCell(at)
        place = copy_of(self.place)
        if at < place.front or at >= place.front + place.left:
            raise BadDeed("read")
        if not is_letter(worth):
            raise BadLetter(worth)
        place.cells[at] = worth
        self.become(f"set {at} {worth}", place)

    def __eq__(self, other):
        return (isinstance(other, Array) and self.converter == other.converter
                and self.place.cells == other.place.cells and self.state == other.state
                and self.reader == other.reader and self.writer == other.writer and self.is_done == other.is_done)
