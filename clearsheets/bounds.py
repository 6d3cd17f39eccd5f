"""The bounds of the package: how many of something there may be."""

MAX_COUNTED = 3
MAX_DOTS = 400
MAX_DRAWN = 8
MAX_EDITS = 20
MAX_HOLDERS = 5
MAX_LOOKS = 12
MAX_SOLVED = 4
MAX_TONES = 4
