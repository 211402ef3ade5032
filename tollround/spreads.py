"""Spreads: the ways to share out rounds of coins among purses, and their numbers.

A spread is a list with the number of rounds in each purse. The spreads of so
many rounds among so many people are numbered from 0 in ascending order. None of
these functions goes through the spreads or the rounds one by one.
"""

from math import comb


def spreads_many(rounds, people):
    """Return the number of spreads, 0 if the rounds are below 0."""
    if rounds < 0:
        return 0
    if people == 0:
        # Without a purse only no rounds can be shared out.
        return 1 if rounds == 0 else 0
    return comb(rounds + people - 1, people - 1)


def smaller_many(rounds, people, first):
    """Return the number of spreads in which the first purse has less than first."""
    # In the others it has first and maybe more: put first aside, share the rest.
    return spreads_many(rounds, people) - spreads_many(rounds - first, people)


def spread_number(spread):
    """Return the number of the spread among those of its rounds and people."""
    left = sum(spread)
    number = 0
    for at, rounds in enumerate(spread):
        number += smaller_many(left, len(spread) - at, rounds)
        left -= rounds
    return number


def spread_at(rounds, people, number):
    """Return the spread with this number."""
    left, behind = rounds, number
    found = []
    for at in range(people):
        first = first_at(left, people - at, behind)
        behind -= smaller_many(left, people - at, first)
        left -= first
        found.append(first)
    return found


def first_at(rounds, people, number):
    """Return what the first purse has in the spread with this number."""
    least, most = 0, rounds
    while least < most:
        middle = (least + most + 1) // 2
        if smaller_many(rounds, people, middle) <= number:
            least = middle
        else:
            most = middle - 1
    return least
