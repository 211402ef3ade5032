"""The check of the numbers by which callers name people."""

from tollround.errors import NoPerson


def check_person(state, person):
    """Raise NoPerson if nobody at the table has this number."""
    if person < 0 or person >= len(state[0]):
        raise NoPerson(person)
