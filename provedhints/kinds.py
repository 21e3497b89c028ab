"""What a state is: the numbers that stand for it in a state answered."""

GOES_ON = 0
GOOD_END = 1
BAD_END = 2
