"""Counting on in a ring, by kinds of numbers and by rules."""
