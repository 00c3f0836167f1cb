"""The numbers that are answered in place of what was asked for."""

NO_SUCH_COLUMN = -1
OUT_OF_RANGE = -2
WRONG_LENGTH = -3
HAS_RING = -8
