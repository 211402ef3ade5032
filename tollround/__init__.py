"""Tollround: neighbours at a round table who exchange seats for a coin."""
