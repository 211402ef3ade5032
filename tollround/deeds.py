"""The deeds of a party, each as a function of the STATE before.

Each returns the pair of the result of the deed and the STATE after it.
"""

from tollround.errors import Empty, Few, Full
from tollround.leading import distance
from tollround.moves import exchanged, run
from tollround.passes import after_passes
from tollround.people import check_person
from tollround.states import as_tuples, sitting

# With as many people nobody else may come.
MOST_PEOPLE = 12


def exchange_deed(state, seat):
    """Exchange at the seat; the result is the person who pays."""
    after = exchanged(state, seat)
    return (sitting(state)[seat], after)


def run_deed(state, row):
    """Do the exchanges of the ROW; the result is how many they are."""
    return (len(row), run(state, row))


def again_deed(state, row, many):
    """Make so many passes; the result is the tuple of the purses then."""
    after = after_passes(state, row, many)
    return (after[1], after)


def go_deed(state, goal):
    """Exchange seats until the STATE is the goal; the result is the distance."""
    return (distance(state, goal), as_tuples(goal))


def give_deed(state, person, coins):
    """Put coins into the purse of the person; the result is what is in it then."""
    check_person(state, person)
    return with_coins(state, person, state[1][person] + coins)


def take_deed(state, person, coins):
    """Take coins out of the purse of the person; the result is what is left in it."""
    check_person(state, person)
    if state[1][person] < coins:
        raise Empty(person)
    return with_coins(state, person, state[1][person] - coins)


def with_coins(state, person, coins):
    """Return the coins and the STATE in which the person has so many."""
    seats, purses = state
    return (coins, (seats, purses[:person] + (coins,) + purses[person + 1:]))


def come_deed(state, coins):
    """Let one more person sit down; the result is how many people there are then."""
    seats, purses = state
    if len(seats) >= MOST_PEOPLE:
        raise Full(MOST_PEOPLE)
    return (len(seats) + 1, (seats + (len(seats),), purses + (coins,)))


def leave_deed(state, person):
    """Let the person go with the purse; the result is what is in it."""
    check_person(state, person)
    seats, purses = state
    if len(seats) == 2:
        raise Few()
    others = seats[:person] + seats[person + 1:]
    # The seat goes with the person, and those above it are counted anew.
    moved = tuple([seat - 1 if seat > seats[person] else seat for seat in others])
    return (purses[person], (moved, purses[:person] + purses[person + 1:]))


DEEDS = {
    "exchange": exchange_deed, "run": run_deed, "again": again_deed, "go": go_deed,
    "give": give_deed, "take": take_deed, "come": come_deed, "leave": leave_deed,
}

ARGUMENTS = {
    "exchange": 1, "run": 1, "again": 2, "go": 1, "give": 2, "take": 2, "come": 1, "leave": 1,
}


def is_deed(value):
    """Tell whether value is a tuple of the name of a deed and as many arguments as it takes."""
    if not isinstance(value, tuple) or len(value) == 0:
        return False
    name = value[0]
    return isinstance(name, str) and name in ARGUMENTS and len(value) - 1 == ARGUMENTS[name]


def deed_done(state, name, parts):
    """Do the deed with this name and these arguments."""
    action = DEEDS[name]
    return action(state, *parts)
