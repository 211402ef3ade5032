"""Deeds done on STATEs in the plainest way, to compare a Party with."""

import random

from tollround.errors import (
    Barred, Empty, Few, Full, NoPerson, NoSeat, OtherPeople, Stops,
)
from tests.samples import mate, model_exchange, model_residues, people_at

ERRORS = (Barred, Empty, Few, Full, NoPerson, NoSeat, OtherPeople, Stops)


def model_deed(state, deed):
    """The result of a deed and the STATE after it; raises what the deed raises."""
    name, *args = deed
    return MODELS[name](state, *args)


def model_do(state, deeds, whole):
    """Results, STATEs before each deed in effect and at the end, log, and error or None."""
    states, results, names, error = [state], [], [], None
    for deed in deeds:
        try:
            result, after = model_deed(states[-1], deed)
        except ERRORS as caught:
            error = caught
            break
        states.append(after)
        results.append(result)
        names.append(deed[0])
    log = [("in", len(deeds)), *names, ("out", len(names))]
    return results, [state] if error and whole else states, log, error


def exchange_model(state, seat):
    if seat not in range(len(state[0])):
        raise NoSeat(seat)
    person = people_at(state)[seat]
    if state[1][person] == 0:
        raise Empty(person)
    return person, model_exchange(state, seat)


def run_model(state, row):
    for seat in row:
        _, state = exchange_model(state, seat)
    return len(row), state


def again_model(state, row, many):
    """Only for few passes, or where a STATE comes again soon."""
    found, numbers = [state], {state: 0}
    while len(found) <= many:
        present = found[-1]
        for seat in row:
            person = people_at(present)[seat]
            if present[1][person] == 0:
                raise Stops(len(found) - 1)
            present = model_exchange(present, seat)
        if present in numbers:
            first = numbers[present]
            after = found[first + (many - first) % (len(found) - first)]
            return after[1], after
        numbers[present] = len(found)
        found.append(present)
    return found[many][1], found[many]


def go_model(state, goal):
    if len(goal[0]) != len(state[0]):
        raise OtherPeople(len(goal[0]))
    if sum(goal[1]) != sum(state[1]):
        raise Barred("total")
    for person, mark in enumerate(model_residues(state)):
        if model_residues(goal)[person] != mark:
            raise Barred(person)
    return crossings_model(state, goal), goal


def crossings_model(state, goal):
    """How often people have to cross: each pair as often as one passes the other."""
    many, found = len(state[0]), 0
    ends = [seat + before - after for seat, before, after in zip(state[0], state[1], goal[1])]
    for x in range(many):
        for y in range(x):
            found += abs((ends[x] - ends[y]) // many - (state[0][x] - state[0][y]) // many)
    return found


def give_model(state, person, coins):
    if person not in range(len(state[0])):
        raise NoPerson(person)
    purses = list(state[1])
    purses[person] += coins
    return purses[person], (state[0], tuple(purses))


def take_model(state, person, coins):
    left, after = give_model(state, person, -coins)
    if left < 0:
        raise Empty(person)
    return left, after


def come_model(state, coins):
    many = len(state[0])
    if many >= 12:
        raise Full(12)
    return many + 1, (tuple([*state[0], many]), tuple([*state[1], coins]))


def leave_model(state, person):
    """The people and the purses in the order of the seats, without the one who leaves."""
    many = len(state[0])
    if person not in range(many):
        raise NoPerson(person)
    if many == 2:
        raise Few()
    order = [other - (other > person) for other in people_at(state) if other != person]
    purses = [coins for other, coins in enumerate(state[1]) if other != person]
    seats = tuple(order.index(other) for other in range(many - 1))
    return state[1][person], (seats, tuple(purses))


MODELS = {
    "exchange": exchange_model, "run": run_model, "again": again_model, "go": go_model,
    "give": give_model, "take": take_model, "come": come_model, "leave": leave_model,
}


def some_deed(state, seed):
    """A deed for the STATE, which may fail."""
    chance, many = random.Random(seed), len(state[0])
    person = chance.choice([*range(many), *range(many), -1, many, 10 ** 20])
    seat = chance.choice([*range(many), *range(many), *range(many), -1, many, -10 ** 20])
    row = [chance.randrange(many) for _ in range(chance.choice((0, 1, 2, 3, 6)))]
    goals = [state, ((0, 1), (1, sum(state[1]))), (state[0], state[1][::-1])]
    if sum(state[1]) > many * many:
        goals += [mate(state, seed)] * 3
    coins = chance.choice((0, 1, 2, many, 17))
    return chance.choice([
        ("exchange", seat), ("exchange", seat), ("run", row), ("run", [*row, seat]),
        ("again", row, chance.choice((0, 1, 2, 3, 50))), ("again", row * 2, 1),
        ("go", chance.choice(goals)), ("give", person, coins), ("take", person, coins),
        ("come", coins), ("leave", person),
    ])
