"""STATEs, shapes of arguments and checks that several test files use."""

import copy
import itertools
import random
import time

PAIR = ((0, 1), (1, 0))
TRIO = ((0, 1, 2), (1, 0, 0))
RICH = ((0, 1, 2), (2, 0, 1))
MOST_COINS = 10 ** 42
# Of the time of the processor. Each call takes far less; to count one by one
# would take longer than anybody waits.
SECONDS = 1


def shapes(value):
    """All ways to write a nested value with lists and tuples, mixed too."""
    if not isinstance(value, (list, tuple)):
        return [value]
    found = []
    for parts in itertools.product(*[shapes(item) for item in value]):
        found.append(tuple(parts))
        found.append(list(parts))
    return found


def some_states(seed=1):
    """STATEs of two to twelve people, from empty to very full purses."""
    chance = random.Random(seed)
    found = []
    for many in range(2, 13):
        for most in (0, 1, 3, MOST_COINS):
            seats = list(range(many))
            chance.shuffle(seats)
            purses = [chance.randint(0, most) for _ in range(many)]
            found.append((tuple(seats), tuple(purses)))
        found.append((tuple(range(many)), (MOST_COINS,) * many))
        found.append((tuple(reversed(range(many))), (0,) * (many - 1) + (1,)))
    return found


def possible_row(state, length, seed):
    """A ROW of so many possible exchanges; the STATE must hold a coin."""
    chance = random.Random(seed)
    row = []
    for _ in range(length):
        people = people_at(state)
        seat = chance.choice([k for k, x in enumerate(people) if state[1][x]])
        row.append(seat)
        state = model_exchange(state, seat)
    return row


def all_purses(many, coins):
    """All ways to have so many coins in so many purses, ascending."""
    if many == 1:
        return [(coins,)]
    return [(first, *more) for first in range(coins + 1)
            for more in all_purses(many - 1, coins - first)]


def all_states(many, coins):
    """All STATEs of so many people with so many coins, ascending."""
    return [(seats, purses) for seats in itertools.permutations(range(many))
            for purses in all_purses(many, coins)]


def all_lots(many, coins):
    """The lots of so many people with so many coins, each an ascending list.

    They are found by exchanges alone, and told apart by nothing else.
    """
    found, seen = [], set()
    for state in all_states(many, coins):
        if state not in seen:
            lot = sorted(distances_from(state))
            seen.update(lot)
            found.append(lot)
    return found


def distances_from(state):
    """How many exchanges each STATE is away to which this one leads, by a search."""
    found = {state: 0}
    queue = [state]
    for present in queue:
        for seat, person in enumerate(people_at(present)):
            if present[1][person]:
                behind = model_exchange(present, seat)
                if behind not in found:
                    found[behind] = found[present] + 1
                    queue.append(behind)
    return found


def model_residues(state):
    """Seat plus coins of everybody, modulo their number."""
    return tuple((seat + coins) % len(state[0]) for seat, coins in zip(*state))


def mate(state, seed):
    """Another STATE with the same residues and total, which must be some thousand."""
    chance = random.Random(seed)
    many, marks = len(state[0]), model_residues(state)
    seats = list(range(many))
    chance.shuffle(seats)
    purses = [(mark - seat) % many for mark, seat in zip(marks, seats)]
    rounds = (sum(state[1]) - sum(purses)) // many
    order = list(range(many))
    chance.shuffle(order)
    for person in order[:-1]:
        part = chance.randint(0, rounds)
        purses[person] += part * many
        rounds -= part
    purses[order[-1]] += rounds * many
    return (tuple(seats), tuple(purses))


def full_states(seed=1, most=10 ** 40):
    """STATEs of two to twelve people with very full purses."""
    chance = random.Random(seed)
    found = []
    for many in range(2, 13):
        seats = list(range(many))
        chance.shuffle(seats)
        found.append((tuple(seats), tuple(chance.randint(most // 2, most) for _ in seats)))
    return found


def people_at(state):
    """The people in the order of their seats, found by looking for each seat."""
    return [state[0].index(seat) for seat in range(len(state[0]))]


def model_exchange(state, seat):
    """A possible exchange, told person by person."""
    many = len(state[0])
    behind = (seat + 1) % many
    seats, purses = [], []
    for place, coins in zip(*state):
        if place == seat:
            seats.append(behind)
            purses.append(coins - 1)
        elif place == behind:
            seats.append(seat)
            purses.append(coins + 1)
        else:
            seats.append(place)
            purses.append(coins)
    return (tuple(seats), tuple(purses))


def model_run(state, row):
    """The STATE after a ROW of possible exchanges."""
    for seat in row:
        state = model_exchange(state, seat)
    return state


def model_meets(state, wish):
    """Whether nobody sits or has coins otherwise than wished."""
    return not [x for x, (seat, coins) in enumerate(wish)
                if seat not in (None, state[0][x]) or coins not in (None, state[1][x])]


def kinds(value):
    """The value with the kind of each of its parts, lists and tuples told apart."""
    if isinstance(value, (list, tuple)):
        return (type(value).__name__, [kinds(item) for item in value])
    return (type(value).__name__, value)


# Pairs of numbers of people and of coins whose STATEs can all be gone through.
SMALL = [(2, 0), (2, 1), (2, 2), (2, 5), (2, 8), (3, 0), (3, 1), (3, 2), (3, 3), (3, 5), (4, 0),
         (4, 1), (4, 2), (4, 3)]


class Checks:
    """Checks to mix into a unittest.TestCase."""

    def assert_exact(self, got, wanted):
        """Equal, and of the same kinds at every depth."""
        self.assertEqual(kinds(got), kinds(wanted))

    def assert_raises(self, error, wanted, function, *args, **more):
        """The call raises exactly this error, with these attributes."""
        with self.assertRaises(error) as caught:
            function(*args, **more)
        self.assertIs(type(caught.exception), error)
        for name, value in wanted.items():
            self.assert_exact(getattr(caught.exception, name), value)

    def assert_any_shape(self, function, args, names, wanted):
        """The same result from lists and tuples, by position and by name.

        The arguments stay as they are.
        """
        for shaped in itertools.product(*[shapes(arg) for arg in args]):
            before = copy.deepcopy(shaped)
            self.assert_exact(function(*shaped), wanted)
            self.assert_exact(function(**dict(zip(names, shaped))), wanted)
            self.assert_exact(shaped, before)


class Timed:
    """A check of times to mix into a unittest.TestCase."""

    def timed(self, function, *args, **more):
        """What the function returns, which must not take long."""
        start = time.process_time()
        try:
            return function(*args, **more)
        finally:
            self.assertLess(time.process_time() - start, SECONDS, function.__name__)
