"""Running calls, and rows of calls."""

from pastless.checks import are_falls, call_number, call_numbers, check_call, check_plain, check_row, check_state
from pastless.errors import NoCoins
from pastless.machines import Run, finish, finish_telling, ways_from
from pastless.shares import chances, moved

MOST_FALLS = 4


class Moves:
    """The outcomes of the calls of a vault, by the numbers of the calls."""

    def __init__(self, vault):
        self._starts = vault.starts()
        self._sides = vault.sizes()

    def ways(self, state, number):
        """The outcomes of a call from a state [9]."""
        return ways_from(self._starts[number], self._sides, state)


def run_of(vault, state, call, coins):
    """The run of a call from its beginning; NoState, NoCall, NoCoins."""
    check_state(vault, state)
    check_call(vault, call)
    if not isinstance(coins, list) or len(coins) > MOST_FALLS or not are_falls(coins):
        raise NoCoins()
    return Run(start_of(vault, call), vault.sizes(), list(state), list(coins))


def start_of(vault, call):
    """What a run of the call begins with."""
    return vault.starts()[call_number(call_numbers(vault), call)]


def called(vault, state, call, coins):
    """What a call answers and the state behind it, if the coins fall as told."""
    run = run_of(vault, state, call, coins)
    finish(run)
    return (run.result, tuple(run.cells))


def steps(vault, state, call, coins):
    """The list of the steps of a call, if the coins fall as told."""
    return finish_telling(run_of(vault, state, call, coins))


def outcomes(vault, state, call):
    """The list of the outcomes of a call: one for each way in which the coins can fall."""
    check_state(vault, state)
    check_call(vault, call)
    return ways_from(start_of(vault, call), vault.sizes(), state)


def made(vault, row):
    """The list of the answers of a past, and the state behind it; HasCoins, NoRow."""
    check_plain(vault)
    numbers = call_numbers(vault)
    check_row(numbers, row)
    starts = vault.starts()
    sizes = vault.sizes()
    cells = list(vault.first())
    answers = []
    for call in row:
        run = Run(starts[numbers[call]], sizes, cells, [])
        finish(run)
        answers.append(run.result)
    return (answers, tuple(cells))


def led(vault, row):
    """The state behind a past."""
    return made(vault, row)[1]


def answered(vault, row):
    """The list of the answers of a past."""
    return made(vault, row)[0]


def share(vault, row):
    """The share of a past: the states that can be behind it, with their chances."""
    numbers = call_numbers(vault)
    check_row(numbers, row)
    return chances(weights_behind(vault, [numbers[call] for call in row]))


def weights_behind(vault, row):
    """The weights of the share of a past, told by the numbers of its calls."""
    moves = Moves(vault)
    weights = {vault.first(): 1}
    # A long past comes to the same states again and again.
    known = {}
    for number in row:
        for state in weights:
            if (state, number) not in known:
                known[(state, number)] = moves.ways(state, number)
        weights = moved(weights, {state: known[(state, number)] for state in weights})
    return weights
