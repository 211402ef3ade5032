"""ROWs that are done again and again, without doing the passes one by one.

Whoever sits on a given seat before a pass gets to the same seat with it, gains the
same coins and needs the same coins for it, whatever is in the purses. So everybody
goes round a circuit of seats, pass by pass, and each round of the circuit brings
the same gain, which may be below 0.
"""

from tollround.errors import Empty, Stops
from tollround.moves import exchanged
from tollround.states import inverse


def passes_many(state, row):
    """Return how many passes can be done one after another, or None if they never end."""
    seats, purses = state
    ends, gains, needs = one_pass(len(seats), row)
    found = [passes_paid(coins, circuit(ends, seat), gains, needs)
             for seat, coins in zip(seats, purses)]
    return min([many for many in found if many is not None], default=None)


def one_pass(size, row):
    """Return three lists of what a pass does to the people on the seats 0, 1, and so on.

    They hold the seat where the person gets to, the coins that the person gains,
    and those that the person needs in order to pay whenever it is due.
    """
    people = list(range(size))
    gains, needs = [0] * size, [0] * size
    for seat in row:
        behind = (seat + 1) % size
        payer, taker = people[seat], people[behind]
        needs[payer] = max(needs[payer], 1 - gains[payer])
        gains[payer] -= 1
        gains[taker] += 1
        people[seat], people[behind] = taker, payer
    return (inverse(people), gains, needs)


def circuit(ends, seat):
    """Return the list of the seats before each pass, from this seat until it comes again."""
    found = [seat]
    while ends[found[-1]] != seat:
        found.append(ends[found[-1]])
    return found


def passes_paid(coins, path, gains, needs):
    """Return how many passes somebody with these coins can pay, or None for all.

    The path is the circuit of the person, who sits on its first seat.
    """
    lost = -gain_of(path, gains)
    present, found = coins, []
    for at, seat in enumerate(path):
        spare = present - needs[seat]
        if spare < 0:
            found.append(at)
        elif lost > 0:
            found.append((spare // lost + 1) * len(path) + at)
        present += gains[seat]
    return min(found, default=None)


def after_passes(state, row, many):
    """Return the STATE after so many passes."""
    most = passes_many(state, row)
    if most is not None and many > most:
        raise Stops(most)
    ends, gains, _ = one_pass(len(state[0]), row)
    seats, purses = [], []
    for seat, coins in zip(state[0], state[1]):
        path = circuit(ends, seat)
        rounds, more = divmod(many, len(path))
        seats.append(path[more])
        purses.append(coins + rounds * gain_of(path, gains) + gain_of(path[:more], gains))
    return (tuple(seats), tuple(purses))


def gain_of(path, gains):
    """Return the coins that passes from these seats bring."""
    return sum([gains[seat] for seat in path])


def stopper(state, row):
    """Return the pair of the index and the person at whom the passes end, or None."""
    many = passes_many(state, row)
    if many is None:
        return None
    present = after_passes(state, row, many)
    for at, seat in enumerate(row):
        try:
            present = exchanged(present, seat)
        except Empty as error:
            return (at, error.person)
    return None
