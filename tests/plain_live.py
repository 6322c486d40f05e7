"""An array by its definition alone, kept in lists beside, to hold the program against."""

from headgap.errors import BadDeed, BadLetter, BadNumber, BadWord, NoCell, NoRoom, NoStep, NoTail, Nothing, RunOver, TooMany


def is_text(value):
    return type(value) is str and len(value) <= 400 and all("a" <= sign <= "z" for sign in value)


def is_count(value):
    return type(value) is int and value >= 0


class PlainArray:
    """Each deed is a function of the parts: written, unread, front, state, read, given, done."""

    def __init__(self, converter, text, ahead=0, size=None):
        self.converter = converter
        self.size = ahead + len(text) if size is None else size
        self.parts = {"written": "", "unread": list(text), "front": ahead, "state": converter.start, "read": 0,
                      "given": len(text), "done": False}
        self.past = []

    def cells(self, parts=None):
        """What lies in the cells: first all that is written, then free ones, then the unread letters."""
        parts = parts or self.parts
        found = {**dict(enumerate(parts["written"])), **{parts["front"] + k: sign for k, sign in enumerate(parts["unread"])}}
        return [found.get(k) for k in range(self.size)]

    def reader(self):
        parts = self.parts
        return parts["front"] if parts["unread"] else max(parts["front"], len(parts["written"]))

    def seen(self):
        parts = self.parts
        return {"state": parts["state"], "reader": self.reader(), "writer": len(parts["written"]), "unread": "".join(parts["unread"]),
                "written": parts["written"], "is_done": parts["done"], "ahead": self.reader() - len(parts["written"]),
                "log": tuple(deed for deed, _ in self.past)}

    def undo(self):
        if not self.past:
            raise Nothing()
        self.parts = self.past.pop()[1]

    def do(self, deed, work, *values):
        """Does a deed, unless it raises an error."""
        parts = {**self.parts, "unread": list(self.parts["unread"])}
        told = work(parts, *values)
        if len(self.past) == 1000:
            raise TooMany("deeds", 1000)
        self.past.append((deed, self.parts))
        self.parts = parts
        return told

    def write(self, parts, answer):
        for sign in answer:
            cell = len(parts["written"])
            if parts["unread"] and cell == parts["front"]:
                raise RunOver(cell)
            if cell == self.size:
                raise NoRoom(cell)
            parts["written"] += sign

    def stepped(self, parts):
        if parts["done"]:
            raise BadDeed("done")
        if not parts["unread"]:
            raise BadDeed("letters")
        if (parts["state"], parts["unread"][0]) not in self.converter.steps:
            raise NoStep(parts["read"], parts["state"])
        answer, parts["state"] = self.converter.steps[parts["state"], parts["unread"].pop(0)]
        parts["front"] += 1
        parts["read"] += 1
        self.write(parts, answer)
        return answer

    def tail_of(self, parts):
        if parts["state"] not in self.converter.tails:
            raise NoTail(parts["state"])
        self.write(parts, self.converter.tails[parts["state"]])
        return self.converter.tails[parts["state"]]

    def flushed(self, parts):
        if parts["done"]:
            raise BadDeed("done")
        told = self.tail_of(parts)
        parts["state"] = self.converter.start
        return told

    def finished(self, parts):
        if parts["done"]:
            raise BadDeed("done")
        if parts["unread"]:
            raise BadDeed("letters")
        self.tail_of(parts)
        parts["done"] = True
        return parts["written"]

    def ran(self, parts):
        while parts["unread"]:
            self.stepped(parts)
        return self.finished(parts)

    def put_behind(self, parts, text):
        if parts["done"]:
            raise BadDeed("done")
        if not is_text(text):
            raise BadWord(text)
        if parts["given"] + len(text) > 400:
            raise TooMany("letters", 400)
        if not parts["unread"]:
            parts["front"] = max(parts["front"], len(parts["written"]))
        if parts["front"] + len(parts["unread"]) + len(text) > self.size:
            raise NoRoom(self.size)
        parts["unread"].extend(text)
        parts["given"] += len(text)

    def moved(self, parts, ahead):
        if not is_count(ahead):
            raise BadNumber(ahead)
        if parts["done"]:
            raise BadDeed("done")
        front = len(parts["written"]) + ahead
        if front + len(parts["unread"]) > self.size:
            raise NoRoom(self.size)
        parts["front"] = front

    def set_letter(self, parts, cell, letter):
        if not is_count(cell) or cell >= self.size:
            raise NoCell(cell)
        if not 0 <= cell - parts["front"] < len(parts["unread"]):
            raise BadDeed("read")
        if not is_text(letter) or len(letter) != 1:
            raise BadLetter(letter)
        parts["unread"][cell - parts["front"]] = letter

    def step(self):
        return self.do("step", self.stepped)

    def flush(self):
        return self.do("flush", self.flushed)

    def finish(self):
        return self.do("finish", self.finished)

    def run(self):
        return self.do("run", self.ran)

    def put(self, text):
        return self.do(f"put {text}" if is_text(text) else "", self.put_behind, text)

    def move(self, ahead):
        return self.do(f"ahead {ahead}" if is_count(ahead) else "", self.moved, ahead)

    def set(self, cell, letter):
        return self.do(f"set {cell} {letter}" if is_count(cell) and is_text(letter) else "", self.set_letter, cell, letter)
