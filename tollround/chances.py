"""Chances of seats and averages of purses in a lot, as exact FRACTIONs."""

from math import gcd

from tollround.counting import lot_many
from tollround.leading import kept
from tollround.people import check_person
from tollround.seatings import rounds_of, seatings_by_wraps, wraps_many
from tollround.spreads import spreads_many
from tollround.states import residues


def seat_chances(state, person):
    """Return the list of the chances that the person sits on the seats 0, 1, and so on."""
    check_person(state, person)
    size = len(state[0])
    found = [0] * size
    for seat, spare, seatings in seatings_of(state, person):
        found[seat] += seatings * spreads_many(spare, size)
    many = lot_many(state)
    return [lowest(count, many) for count in found]


def mean_purse(state, person):
    """Return the average number of coins of the person in the lot."""
    check_person(state, person)
    size = len(state[0])
    coins = 0
    for seat, spare, seatings in seatings_of(state, person):
        # On average everybody has the same share of the spare rounds. A round is as many
        # coins as there are people, so that everybody has a coin for each round.
        mean = least_purse(state, person, seat) + spare
        coins += seatings * spreads_many(spare, size) * mean
    return lowest(coins, lot_many(state))


def range_of(state, person):
    """Return the pair of the least and the greatest number of coins of the person."""
    check_person(state, person)
    size = len(state[0])
    found = []
    for seat, spare, _ in seatings_of(state, person):
        # The spare rounds may all be in other purses, or all in this one.
        least = least_purse(state, person, seat)
        found.extend([least, least + spare * size])
    return (min(found), max(found))


def seatings_of(state, person):
    """Return triples of a seat of the person, spare rounds and a number of seatings.

    So many seatings of the lot have the person on this seat and leave so many rounds
    to share out among all purses. The seats ascend; no number is 0.
    """
    marks, coins = kept(state)
    rounds = rounds_of(marks, coins)
    behind = sorted(marks[:person] + marks[person + 1:])
    found = []
    for seat in range(len(marks)):
        others = [other for other in range(len(marks)) if other != seat]
        spare = rounds - wraps_many([marks[person]], [seat])
        for wraps, seatings in enumerate(seatings_by_wraps(behind, others)):
            if seatings > 0 and wraps <= spare:
                found.append((seat, spare - wraps, seatings))
    return found


def least_purse(state, person, seat):
    """Return the least number of coins with which the person can sit on the seat."""
    return (residues(state)[person] - seat) % len(state[0])


def lowest(numerator, denominator):
    """Return the FRACTION in lowest terms; the denominator must be at least 1."""
    common = gcd(numerator, denominator)
    return (numerator // common, denominator // common)
