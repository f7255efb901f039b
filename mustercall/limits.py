"""The limits of numbers, lengths and depths (point 103)."""

MOST_PROCESSES = 12
MOST_NUMBER = 10 ** 12
MOST_PAYLOAD = 30
MOST_DIGITS = 24
MOST_DEPTH = 8
MOST_LENGTH = 100000
