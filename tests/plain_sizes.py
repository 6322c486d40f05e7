"""Lengths and gaps by their definitions alone, to hold the program against: texts, cells, and plain reckoning."""

from tests.plain_ways import taken, walk


def useful_of(converter):
    """The useful states: those that are come to, and from which a tail is come to."""
    reached = {converter.start}
    ended = set(converter.tails)
    for _ in converter.states:
        reached |= {to for (state, _), (_, to) in converter.steps.items() if state in reached}
        ended |= {state for (state, _), (_, to) in converter.steps.items() if to in ended}
    return tuple(sorted(reached & ended))


def useful_steps(converter):
    """The useful steps: state, letter, answer, next state."""
    useful = useful_of(converter)
    return [(state, letter, answer, to) for (state, letter), (answer, to) in sorted(converter.steps.items())
            if state in useful and to in useful]


def is_run_over(converter, text, ahead):
    """Whether a text behind so many free cells is run over, cell by cell."""
    unread = {ahead + k: letter for k, letter in enumerate(text)}
    written, state = 0, converter.start
    for k, letter in enumerate(text):
        del unread[ahead + k]
        answer, state = converter.steps[state, letter]
        for _ in answer:
            if written in unread:
                return True
            written += 1
    return False


def gap_by_cells(converter, text):
    """The least number of cells ahead with which a taken text is not run over."""
    ahead = 0
    while is_run_over(converter, text, ahead):
        ahead += 1
    return ahead


def rows(converter, word, most):
    """For each n from 0 to most a dict from the useful states to their values, by the equations of the document."""
    useful, steps = useful_of(converter), useful_steps(converter)
    found = []
    for n in range(most + 1):
        row = {}
        for state in useful:
            values = []
            if n == 0 and word == "burst":
                values = [0]
            elif n == 0 and state in converter.tails:
                values = [0 if word == "gap" else len(converter.tails[state])]
            for at, _, answer, to in steps:
                if n > 0 and at == state and found[n - 1][to] is not None:
                    if word == "gap":
                        values.append(0 if n == 1 else max(0, len(answer) - 1 + found[n - 1][to]))
                    else:
                        values.append(len(answer) + found[n - 1][to])
            row[state] = (min if word == "least" else max)(values, default=None)
        found.append(row)
    return found


def times(one, other):
    """The greatest sums over two matrices, told as dicts from rows to dicts."""
    found = {}
    for at, row in one.items():
        line = found[at] = {}
        for between, worth in row.items():
            for to, more in other.get(between, {}).items():
                if to not in line or worth + more > line[to]:
                    line[to] = worth + more
    return found


def far_values(converter, word, places):
    """For each of these n the dict from the useful states to their values, by doubling lengths."""
    matrix = {}
    ends = {}
    for state, _, answer, to in useful_steps(converter):
        # A gap is told by letters that count, and one or more behind them that do not.
        if word == "gap":
            ways = [((state, 1), (to, 1), len(answer) - 1), ((state, 1), (to, 2), 0), ((state, 2), (to, 2), 0)]
        else:
            ways = [((state, 1), (to, 1), -len(answer) if word == "least" else len(answer))]
        for at, goal, worth in ways:
            line = matrix.setdefault(at, {})
            line[goal] = max(line.get(goal, worth), worth)
    for state in useful_of(converter):
        if word == "burst":
            ends[state, 1] = {"end": 0}
        elif state in converter.tails:
            tail = len(converter.tails[state])
            ends[state, 2 if word == "gap" else 1] = {"end": {"gap": 0, "least": -tail, "longest": tail}[word]}
    powers = [matrix]
    while 2 ** len(powers) <= max(places):
        powers.append(times(powers[-1], powers[-1]))
    found = []
    for n in places:
        line = ends
        for k, power in enumerate(powers):
            if n >> k & 1:
                line = times(power, line)
        row = {}
        for state in useful_of(converter):
            worth = line.get((state, 1), {}).get("end")
            row[state] = -worth if word == "least" and worth is not None else worth
        found.append(row)
    return found


def most_of(converter, n, work, choose=max):
    """The greatest (or the least) of what work tells of a taken text of n letters, None without one."""
    return choose([work(text) for text in taken(converter, n)], default=None)


def bursts(converter, n):
    """How many letters each way of n useful steps writes."""
    steps = useful_steps(converter)
    ways = [(state, 0) for state in useful_of(converter)]
    for _ in range(n):
        ways = [(to, many + len(answer)) for at, many in ways for state, _, answer, to in steps if state == at]
    return [many for _, many in ways]


def weight_along(converter, state, text):
    """The sum of the weights of a text from a state on."""
    states = walk(converter, text, state)
    return sum(len(converter.steps[at, letter][0]) - 1 for at, letter in zip(states, text))
