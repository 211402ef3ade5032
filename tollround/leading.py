"""Which STATE leads to which, how far it is, and a shortest way."""

from tollround.errors import Barred, Empty, NoSeat, OtherPeople, TooMany
from tollround.most import MOST_STEPS
from tollround.moves import exchanged, run
from tollround.states import are_whole, as_tuples, residues, sitting, total


def kept(state):
    """Return the residues and the total, which no exchange changes."""
    return (residues(state), total(state))


def leads(one, other):
    """Tell whether some ROW turns one into other."""
    return bar(one, other) is None


def bar(one, other):
    """Return None if one leads to other, else "total" or the first person who bars it."""
    check_people(one, other)
    marks, coins = kept(one)
    other_marks, other_coins = kept(other)
    if coins != other_coins:
        return "total"
    for person, mark in enumerate(marks):
        if mark != other_marks[person]:
            return person
    return None


def check_people(one, other):
    """Raise OtherPeople if the two STATEs have not the same number of people."""
    many = len(other[0])
    if len(one[0]) != many:
        raise OtherPeople(many)


def check_leads(one, other):
    """Raise OtherPeople or Barred if one does not lead to other."""
    reason = bar(one, other)
    if reason is not None:
        raise Barred(reason)


def shifts(one, other):
    """Return the tuple of everybody's steps clockwise, less those the other way."""
    check_leads(one, other)
    return tuple([before - after for before, after in zip(one[1], other[1])])


def crossings(one, other):
    """Return the ascending list of (x, y, many) for the pairs that exchange seats."""
    steps = shifts(one, other)
    seats, _ = one
    size = len(seats)
    # Not modulo the number of people: full rounds count.
    goals = [seat + step for seat, step in zip(seats, steps)]
    found = []
    for x in range(size):
        for y in range(x + 1, size):
            many = abs((goals[y] - goals[x]) // size - (seats[y] - seats[x]) // size)
            if many > 0:
                found.append((x, y, many))
    return found


def distance(one, other):
    """Return the number of exchanges in a shortest ROW from one to other."""
    return sum([crossing[2] for crossing in crossings(one, other)])


def nearer(one, other):
    """Return the seat of an exchange with which a shortest ROW can begin, or None."""
    steps = shifts(one, other)
    # Who has most steps to go has a coin for each of them. If the person on the
    # next seat has fewer, then by two at least, as one less would take both to the
    # same seat: these two have to cross, and this exchange is one that they need.
    # All steps add up to 0, so that nobody has fewer only if nobody has any to go.
    most = max(steps)
    people = sitting(one)
    for seat, person in enumerate(people):
        behind = people[(seat + 1) % len(people)]
        if steps[person] == most and steps[behind] < most:
            return seat
    return None


def plan(one, other):
    """Return a shortest ROW from one to other."""
    many = distance(one, other)
    if many > MOST_STEPS:
        raise TooMany(many)
    present = one
    row = []
    for _ in range(many):
        seat = nearer(present, other)
        row.append(seat)
        present = exchanged(present, seat)
    return row


def is_way(one, other, value):
    """Tell whether value is a ROW that is possible from one on and leads to other."""
    check_people(one, other)
    if not isinstance(value, list) or not are_whole(value):
        return False
    try:
        return run(one, value) == as_tuples(other)
    except (NoSeat, Empty):
        return False
