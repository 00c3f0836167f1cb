"""The numbers that are answered in place of what was asked for."""

NO_SUCH_COLUMN = -1
NO_SUCH_NET = -1
OUT_OF_RANGE = -2
WRONG_ROW = -3
NET_IS_THERE = -7
HAS_RING = -8
TOO_MANY_PIECES = -9
NOT_RIGHT = -10
