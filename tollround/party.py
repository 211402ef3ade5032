"""A party: a table that is kept over many deeds, which can be undone."""

from tollround.counting import lot_many
from tollround.deeds import (
    again_deed, come_deed, deed_done, exchange_deed, give_deed, go_deed, is_deed, leave_deed,
    run_deed, take_deed,
)
from tollround.errors import (
    BadDeed, Barred, Empty, Few, Full, NoDeed, NoPerson, NoSeat, OtherPeople, Stops,
)
from tollround.moves import exchanges
from tollround.states import as_tuples, total
from tollround.texts import number_text


class Party:
    """People at a table who do deeds: exchanges, gifts, coming, leaving and the like."""

    def __init__(self, state):
        self.present = as_tuples(state)
        # The STATEs before the deeds that are in effect, the oldest one first.
        self.earlier = []
        self.written = []

    def __eq__(self, other):
        return isinstance(other, Party) and self.present == other.present

    def __len__(self):
        return len(self.present[0])

    def __repr__(self):
        return f"Party({len(self.present[0])} people, {number_text(total(self.present))} coins)"

    def exchange(self, seat):
        """Exchange at the seat and return the person who paid."""
        return self._keep(exchange_deed(self.present, seat))

    def run(self, row):
        """Do a ROW as one deed and return the number of exchanges."""
        return self._keep(run_deed(self.present, row))

    def again(self, row, many):
        """Make many passes of the ROW as one deed and return the tuple of the purses then."""
        return self._keep(again_deed(self.present, row, many))

    def go(self, goal):
        """Exchange seats until the STATE is the goal, as one deed, and return the distance."""
        return self._keep(go_deed(self.present, goal))

    def give(self, person, coins):
        """Put coins into the purse of the person and return what is in it then."""
        return self._keep(give_deed(self.present, person, coins))

    def take(self, person, coins):
        """Take coins out of the purse of the person and return what is left in it."""
        return self._keep(take_deed(self.present, person, coins))

    def come(self, coins):
        """Let one more person with these coins sit down and return how many people there are."""
        return self._keep(come_deed(self.present, coins))

    def leave(self, person):
        """Let the person go and return the number of coins in the purse."""
        return self._keep(leave_deed(self.present, person))

    def _keep(self, outcome):
        """Put a deed into effect, told its result and the STATE after it; return the result."""
        result, after = outcome
        self.earlier.append(self.present)
        self.present = after
        return result

    def undo(self):
        """Take back the last deed in effect; return False if there is none."""
        if len(self.earlier) == 0:
            return False
        self.present = self.earlier.pop()
        return True

    def do(self, deeds, *, whole=True):
        """Do the deeds one after another and return the list of their results."""
        for at, deed in enumerate(deeds):
            if not is_deed(deed):
                raise BadDeed(at)
        self.written.append(("in", len(deeds)))
        results = []
        try:
            for name, *parts in deeds:
                results.append(self._keep(deed_done(self.present, name, parts)))
                self.written.append(name)
        except (NoSeat, NoPerson, OtherPeople, Empty, Barred, Stops, Few, Full):
            self.written.append(("out", len(results)))
            if whole:
                self._undo_many(len(results))
            raise
        self.written.append(("out", len(results)))
        return results

    def _undo_many(self, many):
        """Take back so many deeds."""
        for _ in range(many):
            self.undo()

    def state(self):
        """Return the STATE."""
        return self.present

    def lot(self):
        """Return the number of STATEs in the lot of the STATE."""
        return lot_many(self.present)

    def exchanges(self):
        """Return the ascending list of the seats at which an exchange is possible."""
        return exchanges(self.present)

    def deeds(self):
        """Return the number of deeds that can be undone."""
        return len(self.earlier)

    def as_of(self, many):
        """Return a new Party in the state after the first many deeds, with an empty log."""
        if many < 0 or many > len(self.earlier):
            raise NoDeed(many)
        states = [*self.earlier, self.present]
        found = Party(states[many])
        found.earlier = states[:many]
        return found

    def twin(self):
        """Return a new Party in the same state, with the same deeds and an empty log."""
        return self.as_of(len(self.earlier))

    def log(self):
        """Return the list of what do has written."""
        return list(self.written)
