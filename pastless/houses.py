"""Houses: vaults that are run, with looks, losses of power and new editions as they come."""

from pastless.checks import are_falls, check_call, is_within
from pastless.errors import NoBack, NoCoins, NoCut, NoLook, NotPlain, OtherSizes
from pastless.machines import Run, finish, finish_telling
from pastless.runs import MOST_FALLS, start_of
from pastless.standings import check_reader, said_behind_looks, standings_of, word_of


class House:
    """A house [39]. It runs a vault, and changes by its methods."""

    def __init__(self, vault):
        self._vault = vault
        self._state = vault.first()
        # All falls that were told at last, and how many of them have fallen.
        self._falls = ()
        self._fallen = 0
        self._log = []
        # For each item of the log what there was ahead of it: the vault, the state, the falls and how many had fallen.
        self._past = []

    def tell(self, falls):
        """The coming falls of coins, instead of those that have not fallen."""
        if not isinstance(falls, list) or not are_falls(falls):
            raise NoCoins()
        self._falls = tuple(falls)
        self._fallen = 0

    def falls(self):
        """The falls that were told and have not fallen."""
        return list(self._falls[self._fallen:])

    def call(self, call):
        """Makes a call; its answer."""
        run = self._run(call)
        finish(run)
        self._note(("call", call, run.result))
        self._fallen += run.fallen
        self._state = tuple(run.cells)
        return run.result

    def cut(self, call, many):
        """Begins a call; power is lost behind so many of its steps."""
        run = self._run(call)
        stops = [self._state] + [step[3] for step in finish_telling(run)]
        if not is_within(many, 0, len(stops) - 1):
            raise NoCut()
        self._note(("cut", call, many))
        self._fallen += run.fallen
        self._state = stops[many]

    def look(self):
        """Somebody is handed the cells: the state."""
        self._note(("look", self._state))
        return self._state

    def edition(self, vault):
        """Another vault takes over the cells."""
        if vault.sizes() != self._vault.sizes():
            raise OtherSizes()
        self._note(("edition", vault))
        self._vault = vault

    def state(self):
        """What the cells hold."""
        return self._state

    def vault(self):
        """The vault that is run now."""
        return self._vault

    def log(self):
        """The list of all that was done."""
        return list(self._log)

    def answers(self):
        """The list of the answers of the calls."""
        return [item[2] for item in self._log if item[0] == "call"]

    def back(self, many):
        """Takes back the last items of the log."""
        if not is_within(many, 0, len(self._log)):
            raise NoBack()
        if many == 0:
            return
        kept = len(self._log) - many
        self._vault, self._state, self._falls, self._fallen = self._past[kept]
        del self._log[kept:]
        del self._past[kept:]

    def copy(self):
        """A house that is the same; they go on apart."""
        other = House(self._vault)
        other._state = self._state
        other._falls = self._falls
        other._fallen = self._fallen
        other._log = list(self._log)
        other._past = list(self._past)
        return other

    def tried(self, action):
        """What a function returns that is called with the house; then everything is put back to what it was."""
        vault = self._vault
        state = self._state
        falls = self._falls
        fallen = self._fallen
        log = list(self._log)
        past = list(self._past)
        try:
            return action(self)
        finally:
            self._vault, self._state, self._falls, self._fallen = vault, state, falls, fallen
            self._log, self._past = log, past

    def known(self, reader, *, most=2000):
        """What the looks tell, all together, of what a reader says of the past."""
        looks = []
        for item in self._log:
            if item[0] in ("cut", "edition"):
                raise NotPlain()
            if item[0] == "look":
                looks.append(item[1])
        check_reader(self._vault, reader)
        if len(looks) == 0:
            raise NoLook()
        reach, standings = standings_of(self._vault, reader, most)
        return word_of(said_behind_looks(reach, reader, standings, looks))

    def __len__(self):
        return len(self._log)

    def _run(self, call):
        """The run of a call that begins now; NoCall."""
        check_call(self._vault, call)
        # No call needs more falls than these, however many are told.
        falls = self._falls[self._fallen:self._fallen + MOST_FALLS]
        return Run(start_of(self._vault, call), self._vault.sizes(), list(self._state), falls)

    def _note(self, item):
        """Puts an item to the log, ahead of what it changes."""
        self._past.append((self._vault, self._state, self._falls, self._fallen))
        self._log.append(item)
