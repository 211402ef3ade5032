"""WISHes for seats and purses: which STATEs of a lot meet them, and how many."""

from tollround.errors import NoNumber, OtherPeople, TooMany
from tollround.leading import distance
from tollround.most import MOST
from tollround.openings import (
    many_seated, opening_of, seating_at, state_seated, states_seated, whole_seatings, wished_seating,
)
from tollround.states import residues


def meets(state, wish):
    """Tell whether the STATE meets the WISH."""
    check_wish(state, wish)
    seats, purses = state
    wished_seats = [seat for seat, _ in wish]
    wished_purses = [coins for _, coins in wish]
    return are_met(wished_seats, seats) and are_met(wished_purses, purses)


def check_wish(state, wish):
    """Raise OtherPeople if the WISH is not one for as many people."""
    if len(wish) != len(state[0]):
        raise OtherPeople(len(wish))


def are_met(wished, found):
    """Tell whether each wished number is the found one, or None."""
    return all([own is None or own == number for own, number in zip(wished, found)])


def wish_many(state, wish):
    """Return how many STATEs of the lot meet the WISH."""
    check_wish(state, wish)
    seating = wished_seating(residues(state), wish)
    if seating is None:
        return 0
    return many_seated(opening_of(state, wish), seating)


def wish_at(state, wish, number):
    """Return the STATE with this number among those of the lot that meet the WISH."""
    many = wish_many(state, wish)
    if number < 0 or number >= many:
        raise NoNumber(number)
    opening = opening_of(state, wish)
    seating, behind = seating_at(opening, wished_seating(residues(state), wish), number)
    return state_seated(opening, wish, seating, behind)


def nearest(state, wish):
    """Return the first of the STATEs that meet the WISH and are nearest, or None."""
    many = wish_many(state, wish)
    if many > MOST:
        raise TooMany(many)
    return min(states_met(state, wish), key=lambda met: distance(state, met), default=None)


def states_met(state, wish):
    """Return the ascending list of the STATEs of the lot that meet the WISH."""
    seating = wished_seating(residues(state), wish)
    if seating is None:
        return []
    opening = opening_of(state, wish)
    return [met for whole in whole_seatings(opening, seating)
            for met in states_seated(opening, wish, whole)]
