"""Doing the rows of a code, one by one."""

from pastless.errors import CoinsOut

STEPS = ("read", "set", "swap")


class Run:
    """A call under way. It changes the list of cells that it was given, which may not be its own alone."""

    def __init__(self, start, sizes, cells, coins):
        self.code = start[0]
        self.sides = sizes
        self.cells = cells
        self.coins = coins
        self.fallen = 0
        self.held = {"a": 0, "b": 0, "c": 0, "d": 0, "x": start[1]}
        self.rounds = []
        self.place = 0
        self.result = None


def value_of(expression, held):
    """The value of an expression, if the registers hold this."""
    if isinstance(expression, str):
        return held[expression]
    if isinstance(expression, int):
        return expression
    sign, one, other = expression
    left = value_of(one, held)
    right = value_of(other, held)
    if sign == "+":
        return (left + right) % 10
    if sign == "-":
        return (left - right) % 10
    if sign == "*":
        return (left * right) % 10
    if sign == "=":
        return 1 if left == right else 0
    return 1 if left < right else 0


def do_read(run, row):
    """("read", REG, CELL)"""
    run.held[row[1]] = run.cells[row[2]]


def do_set(run, row):
    """("set", CELL, E)"""
    cell = row[1]
    run.cells[cell] = value_of(row[2], run.held) % run.sides[cell]


def do_swap(run, row):
    """("swap", REG, CELL, E, F)"""
    cell = row[2]
    old = value_of(row[3], run.held)
    new = value_of(row[4], run.held)
    if run.cells[cell] == old:
        run.cells[cell] = new % run.sides[cell]
        run.held[row[1]] = 1
    else:
        run.held[row[1]] = 0


def do_keep(run, row):
    """("keep", REG, E)"""
    run.held[row[1]] = value_of(row[2], run.held)


def do_coin(run, row):
    """("coin", REG)"""
    if run.fallen == len(run.coins):
        raise CoinsOut()
    run.held[row[1]] = run.coins[run.fallen]
    run.fallen += 1


def do_answer(run, row):
    """("answer", E)"""
    run.result = value_of(row[1], run.held)


def do_unless(run, row):
    """("unless", E, place)"""
    if value_of(row[1], run.held) == 0:
        run.place = row[2]


def do_on(run, row):
    """("on", place)"""
    run.place = row[1]


def do_rounds(run, row):
    """("rounds", E)"""
    run.rounds.append(value_of(row[1], run.held))


def do_round(run, row):
    """("round", place)"""
    if run.rounds[-1] == 0:
        run.rounds.pop()
        run.place = row[1]
    else:
        run.rounds[-1] -= 1


ACTIONS = {
    "read": do_read,
    "set": do_set,
    "swap": do_swap,
    "keep": do_keep,
    "coin": do_coin,
    "answer": do_answer,
    "unless": do_unless,
    "on": do_on,
    "rounds": do_rounds,
    "round": do_round,
}


def do_row(run):
    """Does the next row, and returns it."""
    row = run.code[run.place]
    run.place += 1
    action = ACTIONS[row[0]]
    action(run, row)
    return row


def finish(run):
    """Does all rows until the call is answered."""
    # Most of all runs go through here: so the rows are done on the spot, not by do_row.
    code = run.code
    while run.result is None:
        row = code[run.place]
        run.place += 1
        action = ACTIONS[row[0]]
        action(run, row)


def finish_telling(run):
    """Does all rows until the call is answered; the list of the steps, as [9] tells them."""
    steps = []
    while run.result is None:
        row = do_row(run)
        if row[0] == "set":
            steps.append(("set", row[1], run.cells[row[1]], tuple(run.cells)))
        elif row[0] in STEPS:
            steps.append((row[0], row[2], run.held[row[1]], tuple(run.cells)))
    return steps


def go_on(run):
    """Does all rows up to the place just ahead of the next step, or until the call is answered."""
    while run.result is None and run.code[run.place][0] not in STEPS:
        do_row(run)


def do_step(run):
    """Does the step that the run is just ahead of; what it comes to: what the register got, or None for a "set"."""
    row = do_row(run)
    return None if row[0] == "set" else run.held[row[1]]


def branched(run, cells):
    """A run that is at the same place and holds the same, on these cells."""
    other = Run((run.code, 0), run.sides, cells, run.coins)
    other.fallen = run.fallen
    other.held = dict(run.held)
    other.rounds = list(run.rounds)
    other.place = run.place
    other.result = run.result
    return other


def ways_from(start, sizes, state):
    """The outcomes of a call from a state, as [9] tells them."""
    ways = []
    due = [()]
    while due:
        coins = due.pop()
        run = Run(start, sizes, list(state), coins)
        try:
            finish(run)
        except CoinsOut:
            # What is put on top is taken next: so 0 comes ahead of 1, which is the order of the tuples.
            due.append(coins + (1,))
            due.append(coins + (0,))
        else:
            ways.append((coins, run.result, tuple(run.cells)))
    return ways
