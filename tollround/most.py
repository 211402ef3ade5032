"""How many STATEs and exchanges a function goes through one by one at most."""

MOST = 300
MOST_STEPS = 1000
