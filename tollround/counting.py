"""How many STATEs and lots there are, and the numbers of STATEs in their lot."""

from math import comb, factorial

from tollround.errors import NoNumber
from tollround.leading import check_leads, kept
from tollround.seatings import rounds_of, seat_counts, spare_rounds
from tollround.spreads import spread_at, spread_number, spreads_many


def lot_many(state):
    """Return the number of STATEs in the lot of the STATE."""
    marks, coins = kept(state)
    return many_with(marks, coins)


def many_with(residues, total):
    """Return the number of STATEs with these residues and this total."""
    rounds = rounds_of(residues, total)
    if rounds is None:
        return 0
    return up_to_rounds(residues, rounds) - up_to_rounds(residues, rounds - 1)


def up_to_rounds(marks, rounds):
    """Return the number of STATEs with these residues and at most so many rounds."""
    found = 1
    for index, mark in enumerate(sorted(marks)):
        found = found * (rounds + 1 + mark - index)
    return found


def state_at(state, number):
    """Return the STATE with this number in the lot of the STATE."""
    if number < 0 or number >= lot_many(state):
        raise NoNumber(number)
    marks, coins = kept(state)
    rounds = rounds_of(marks, coins)
    seats, behind = seats_at(marks, rounds, number)
    spread = spread_at(spare_rounds(marks, rounds, seats), len(seats), behind)
    return (tuple(seats), purses_of(marks, seats, spread))


def seats_at(marks, rounds, number):
    """Return the seats in the STATE with this number, and its number among those with them."""
    seats = []
    behind = number
    while len(seats) < len(marks):
        seat, before = seat_at(seat_counts(marks, rounds, seats), behind)
        seats.append(seat)
        behind -= before
    return (seats, behind)


def seat_at(counts, number):
    """Return the seat in the STATE with this number, and how many STATEs have a lower one.

    The counts are pairs of a seat and the number of STATEs with it, seats ascending.
    """
    at, before = 0, 0
    while number >= before + counts[at][1]:
        before += counts[at][1]
        at += 1
    return (counts[at][0], before)


def purses_of(marks, seats, spread):
    """Return the purses of people with these residues, seats and rounds to spare."""
    size = len(seats)
    return tuple([(mark - seat) % size + rounds * size
                  for mark, seat, rounds in zip(marks, seats, spread)])


def state_number(state, other):
    """Return the number of other in the lot of the STATE."""
    check_leads(state, other)
    marks, coins = kept(other)
    rounds = rounds_of(marks, coins)
    seats, purses = other
    number = spread_number([purse // len(seats) for purse in purses])
    for person, own in enumerate(seats):
        counts = seat_counts(marks, rounds, seats[:person])
        number += sum([many for seat, many in counts if seat < own])
    return number


def states_many(size, total):
    """Return the number of all STATEs of so many people with this total."""
    return factorial(size) * spreads_many(total, size)


def lots_many(size, total):
    """Return the number of lots of so many people with this total."""
    # The residues of all but the last person tell how many coins these need at
    # least to sit down, and on which seat nobody then has to sit or to pass. If
    # the total is enough for that, the last person takes this seat and all other
    # coins, so there is just one residue left for the last person; if it is not,
    # there is none. The free seat may be any; the others sit in a row behind it.
    return size * rows_many(size - 1, total)


def rows_many(people, coins):
    """Return how many residues let people sit in a row with at most so many coins.

    The row has as many seats as there are people. Everybody's residue is one of
    them, and everybody sits there or below, for a coin a seat.
    """
    # The keys: how many people have come so far, and the coins that they need.
    ways = {(0, 0): 1}
    for seat in range(people):
        ways = with_next_seat(ways, seat, people, coins)
    return sum(ways.values())


def with_next_seat(ways, seat, people, coins):
    """Return the ways of rows_many up to the seat that has so many seats above it."""
    found = {}
    for (before, needed), many in ways.items():
        for here in range(people - before + 1):
            # One sits down here, all others go on to the next seat below.
            onward = before + here - seat - 1
            if onward >= 0 and needed + onward <= coins:
                key = (before + here, needed + onward)
                found[key] = found.get(key, 0) + many * comb(people - before, here)
    return found
