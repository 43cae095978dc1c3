"""The numbers that refusals answer."""

NO_CHIP = -1
OUT_OF_RANGE = -2
WRONG_LENGTH = -3
FULL = -4
NO_PATH = -5
NO_ROW = -8
NO_PERIOD = -9
