"""What a WISH leaves open in a lot, without going through the STATEs that meet it.

As the residues are kept, wished coins fix the seat, too. The people without wished
coins share out the rounds that the wished purses and those who wrap leave to them.

An opening is a triple of the residues of the people, the rounds of the lot without
those in wished purses, and the number of sharers: the people without wished coins.
A seating is a list with the seat of each person, None where it is not chosen yet;
it is whole if all seats are chosen.
"""

from tollround.counting import purses_of, seat_at
from tollround.leading import kept
from tollround.seatings import rounds_of, seatings_by_wraps
from tollround.spreads import spread_at, spreads_many


def opening_of(state, wish):
    """Return the opening that the WISH leaves in the lot of the STATE."""
    marks, total = kept(state)
    wished = [coins for _, coins in wish if coins is not None]
    rounds = rounds_of(marks, total) - sum([coins // len(marks) for coins in wished])
    return (marks, rounds, len(marks) - len(wished))


def wished_seating(marks, wish):
    """Return the seating that the WISH fixes, None if nobody can sit so."""
    size = len(marks)
    found = [seat if coins is None else (mark - coins) % size
             for mark, (seat, coins) in zip(marks, wish)]
    taken = [seat for seat in found if seat is not None]
    if len(set(taken)) < len(taken) or max(taken, default=0) >= size:
        return None
    # Wished coins may need another seat than the wished one.
    for own, (seat, _) in zip(found, wish):
        if seat is not None and seat != own:
            return None
    return found


def chosen_wraps(marks, seating):
    """Return how many of the people whose seats are chosen wrap."""
    return len([seat for mark, seat in zip(marks, seating) if seat is not None and seat > mark])


def many_seated(opening, seating):
    """Return how many STATEs of the opening have the chosen seats."""
    marks, rounds, sharers = opening
    free = [seat for seat in range(len(marks)) if seat not in seating]
    behind = sorted([mark for mark, seat in zip(marks, seating) if seat is None])
    spare = rounds - chosen_wraps(marks, seating)
    return sum([many * spreads_many(spare - wraps, sharers)
                for wraps, many in enumerate(seatings_by_wraps(behind, free))])


def with_seat(seating, person, seat):
    """Return the seating in which the person sits on the seat, too."""
    found = list(seating)
    found[person] = seat
    return found


def choices(opening, seating, person):
    """Return the pairs of a free seat and how many STATEs have the person there.

    The seats ascend.
    """
    return [(seat, many_seated(opening, with_seat(seating, person, seat)))
            for seat in range(len(seating)) if seat not in seating]


def seating_at(opening, seating, number):
    """Return the whole seating in the STATE with this number, and its number among those with it."""
    found, behind = seating, number
    for person, seat in enumerate(seating):
        if seat is None:
            own, before = seat_at(choices(opening, found, person), behind)
            found = with_seat(found, person, own)
            behind -= before
    return (found, behind)


def whole_seatings(opening, seating):
    """Return the ascending list of the whole seatings of STATEs with the chosen seats."""
    found = [seating]
    for person, own in enumerate(seating):
        if own is None:
            found = [with_seat(chosen, person, seat) for chosen in found
                     for seat, many in choices(opening, chosen, person) if many > 0]
    return found


def state_seated(opening, wish, seating, number):
    """Return the STATE with this number among those that meet the WISH and sit so."""
    marks, rounds, sharers = opening
    shares = spread_at(rounds - chosen_wraps(marks, seating), sharers, number)
    spread = []
    for _, coins in wish:
        spread.append(shares.pop(0) if coins is None else coins // len(marks))
    return (tuple(seating), purses_of(marks, seating, spread))


def states_seated(opening, wish, seating):
    """Return the ascending list of the STATEs that meet the WISH and sit so."""
    return [state_seated(opening, wish, seating, number)
            for number in range(many_seated(opening, seating))]
