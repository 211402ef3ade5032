"""STATEs, shapes of arguments and checks that several test files use."""

import copy
import itertools
import random

PAIR = ((0, 1), (1, 0))
TRIO = ((0, 1, 2), (1, 0, 0))
RICH = ((0, 1, 2), (2, 0, 1))
MOST_COINS = 10 ** 42


def shapes(value):
    """All ways to write a nested value with lists and tuples, mixed too."""
    if not isinstance(value, (list, tuple)):
        return [value]
    found = []
    for parts in itertools.product(*[shapes(item) for item in value]):
        found.append(tuple(parts))
        found.append(list(parts))
    return found


def some_states(seed=1):
    """STATEs of two to twelve people, from empty to very full purses."""
    chance = random.Random(seed)
    found = []
    for many in range(2, 13):
        for most in (0, 1, 3, MOST_COINS):
            seats = list(range(many))
            chance.shuffle(seats)
            purses = [chance.randint(0, most) for _ in range(many)]
            found.append((tuple(seats), tuple(purses)))
        found.append((tuple(range(many)), (MOST_COINS,) * many))
        found.append((tuple(reversed(range(many))), (0,) * (many - 1) + (1,)))
    return found


def possible_row(state, length, seed):
    """A ROW of so many possible exchanges; the STATE must hold a coin."""
    chance = random.Random(seed)
    row = []
    for _ in range(length):
        people = people_at(state)
        seat = chance.choice([k for k, x in enumerate(people) if state[1][x]])
        row.append(seat)
        state = model_exchange(state, seat)
    return row


def people_at(state):
    """The people in the order of their seats, found by looking for each seat."""
    return [state[0].index(seat) for seat in range(len(state[0]))]


def model_exchange(state, seat):
    """A possible exchange, told person by person."""
    many = len(state[0])
    behind = (seat + 1) % many
    seats, purses = [], []
    for place, coins in zip(*state):
        if place == seat:
            seats.append(behind)
            purses.append(coins - 1)
        elif place == behind:
            seats.append(seat)
            purses.append(coins + 1)
        else:
            seats.append(place)
            purses.append(coins)
    return (tuple(seats), tuple(purses))


def kinds(value):
    """The value with the kind of each of its parts, lists and tuples told apart."""
    if isinstance(value, (list, tuple)):
        return (type(value).__name__, [kinds(item) for item in value])
    return (type(value).__name__, value)


class Checks:
    """Checks to mix into a unittest.TestCase."""

    def assert_exact(self, got, wanted):
        """Equal, and of the same kinds at every depth."""
        self.assertEqual(kinds(got), kinds(wanted))

    def assert_raises(self, error, wanted, function, *args, **more):
        """The call raises exactly this error, with these attributes."""
        with self.assertRaises(error) as caught:
            function(*args, **more)
        self.assertIs(type(caught.exception), error)
        for name, value in wanted.items():
            self.assert_exact(getattr(caught.exception, name), value)

    def assert_any_shape(self, function, args, names, wanted):
        """The same result from lists and tuples, by position and by name.

        The arguments stay as they are.
        """
        for shaped in itertools.product(*[shapes(arg) for arg in args]):
            before = copy.deepcopy(shaped)
            self.assert_exact(function(*shaped), wanted)
            self.assert_exact(function(**dict(zip(names, shaped))), wanted)
            self.assert_exact(shaped, before)
