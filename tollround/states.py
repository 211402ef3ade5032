"""STATEs: who sits where at the round table, and the coins in each purse."""


def is_state(value):
    """Tell whether value is a STATE."""
    if not is_pair_of_tuples(value):
        return False
    seats, purses = value
    return len(seats) == len(purses) and are_seats(seats) and are_purses(purses)


def is_pair_of_tuples(value):
    """Tell whether value is a tuple of two tuples."""
    if not isinstance(value, tuple) or len(value) != 2:
        return False
    return isinstance(value[0], tuple) and isinstance(value[1], tuple)


def are_seats(items):
    """Tell whether items are the seats of two or more people."""
    if len(items) < 2 or not are_whole(items):
        return False
    return sorted(items) == list(range(len(items)))


def are_purses(items):
    """Tell whether items are integers that are all at least 0."""
    return are_whole(items) and all([coins >= 0 for coins in items])


def are_whole(items):
    """Tell whether items are all integers, none of them True or False."""
    return all([isinstance(item, int) and not isinstance(item, bool) for item in items])


def sitting(state):
    """Return the tuple of the people on the seats 0, 1, and so on."""
    seats, _ = state
    return inverse(seats)


def state_of(sitting, purses):
    """Return the STATE in which the people sit so and have these purses."""
    return (inverse(sitting), tuple(purses))


def inverse(places):
    """Return the tuple that has at each place the index of this place in places.

    It makes the people of the seats out of the seats of the people, and the
    other way round.
    """
    found = [0] * len(places)
    for index, place in enumerate(places):
        found[place] = index
    return tuple(found)


def as_tuples(state):
    """Return the same STATE, made of tuples where the caller gave lists."""
    seats, purses = state
    return (tuple(seats), tuple(purses))


def total(state):
    """Return the number of coins in all purses."""
    _, purses = state
    return sum(purses)


def residues(state):
    """Return the tuple of seat plus coins of each person, modulo their number."""
    seats, purses = state
    many = len(seats)
    return tuple([(seat + coins) % many for seat, coins in zip(seats, purses)])
