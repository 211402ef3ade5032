"""Exchanges of seats between neighbours, one or many after one another."""

from tollround.errors import Empty, NoSeat
from tollround.states import as_tuples, sitting


def exchanges(state):
    """Return the ascending list of the seats at which an exchange is possible."""
    _, purses = state
    return [seat for seat, person in enumerate(sitting(state)) if purses[person] > 0]


def exchanged(state, seat):
    """Return the STATE after the exchange at the seat."""
    people = sitting(state)
    if seat < 0 or seat >= len(people):
        raise NoSeat(seat)
    payer = people[seat]
    _, purses = state
    if purses[payer] == 0:
        raise Empty(payer)
    return after_toll(state, payer, people[(seat + 1) % len(people)])


def after_toll(state, payer, taker):
    """Return the STATE after these two swap seats and one pays the other a coin."""
    seats, purses = list(state[0]), list(state[1])
    seats[payer], seats[taker] = seats[taker], seats[payer]
    purses[payer] -= 1
    purses[taker] += 1
    return (tuple(seats), tuple(purses))


def run(state, row):
    """Return the STATE after all exchanges of the ROW."""
    present = as_tuples(state)
    for seat in row:
        present = exchanged(present, seat)
    return present


def states_along(state, row):
    """Return the list of the STATE and of the STATEs after each exchange of the ROW."""
    present = as_tuples(state)
    found = [present]
    for seat in row:
        present = exchanged(present, seat)
        found.append(present)
    return found
