"""The words, signs and bounds that the whole program goes by."""

PLAIN = "plain"
WINDOWED = "windowed"
PAUSE = 5
WIDE = 8

# The order counts: a sign's place in it is what the sign adds to a letter's sum.
SIGNS = "abcdefghijklmnopqrstuvwxyz0123456789 =|,"

LEAST_PAUSE = 3
MOST_PAUSE = 60
LEAST_WIDE = 1
MOST_WIDE = 99

SIDES = ("a", "b")
TEXT_SIGNS = "abcdefghijklmnopqrstuvwxyz0123456789 "
MOST_SIGNS = 20
MOST_NUMBER = 9999
MOST_ROUND = 999
