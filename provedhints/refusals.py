"""Which refusal is due. What is nearest to 0 is looked for first, so it is the one that is answered."""

from provedhints.kinds import GOES_ON
from provedhints.rules import conditions_right, effects_right
from provedhints.states import how_many_states

NONE_DUE = 0
OUT_OF_RANGE = -1
NO_STORY = -2
NO_SUCH_ACTION = -3
NO_SUCH_STATE = -4
AT_AN_END = -5
CANNOT_BE_DONE = -6
AS_MANY_AS_MAY_BE = -7
NOT_RIGHT = -8
NOTHING_TO_UNDO = -9
LOST = -10

MOST_VARIABLES = 8
LEAST_SIZE = 2
GREATEST_SIZE = 8
MOST_STATES = 1024
MOST_RULE_NUMBERS = 24
GREATEST_ACTION = 15
GREATEST_STATE = 1023
GREATEST_VARIABLE = 7
GREATEST_VALUE = 7
LONGEST_TABLE = 1024
GREATEST_IN_TABLE = 1025


def sizes_right(sizes):
    if not 1 <= len(sizes) <= MOST_VARIABLES:
        return False
    for size in sizes:
        if not LEAST_SIZE <= size <= GREATEST_SIZE:
            return False
    return how_many_states(sizes) <= MOST_STATES


def story_refusal(sizes, first_values):
    if not sizes_right(sizes) or len(first_values) != len(sizes):
        return OUT_OF_RANGE
    for v in range(len(sizes)):
        if not 0 <= first_values[v] < sizes[v]:
            return OUT_OF_RANGE
    return NONE_DUE


def call_refusal(story):
    if len(story.sizes) == 0:
        return NO_STORY
    return NONE_DUE


# For all that is added to a story; an end has no effects.
def rule_refusal(story, count, most, conditions, effects):
    if len(conditions) > MOST_RULE_NUMBERS or len(effects) > MOST_RULE_NUMBERS:
        return OUT_OF_RANGE
    if len(story.sizes) == 0:
        return NO_STORY
    if count >= most:
        return AS_MANY_AS_MAY_BE
    if not conditions_right(story.sizes, conditions) or not effects_right(story.sizes, effects):
        return NOT_RIGHT
    return NONE_DUE


def action_refusal(story, now, a):
    if not 0 <= a <= GREATEST_ACTION:
        return OUT_OF_RANGE
    if len(story.sizes) == 0:
        return NO_STORY
    if a >= len(story.effected):
        return NO_SUCH_ACTION
    if story.kinds[now] != GOES_ON:
        return AT_AN_END
    if not story.can_be_done(now, a):
        return CANNOT_BE_DONE
    return NONE_DUE


def undo_refusal(story, past):
    if len(story.sizes) == 0:
        return NO_STORY
    if len(past) == 0:
        return NOTHING_TO_UNDO
    return NONE_DUE


# For all calls that name states: each of them is looked at for its range before the first for being there.
def states_refusal(story, named):
    for n in named:
        if not 0 <= n <= GREATEST_STATE:
            return OUT_OF_RANGE
    if len(story.sizes) == 0:
        return NO_STORY
    for n in named:
        if n >= len(story.kinds):
            return NO_SUCH_STATE
    return NONE_DUE


def table_refusal(story, table):
    if len(table) > LONGEST_TABLE:
        return OUT_OF_RANGE
    for number in table:
        if not 0 <= number <= GREATEST_IN_TABLE:
            return OUT_OF_RANGE
    return call_refusal(story)


def lost_refusal(story, now):
    if len(story.sizes) == 0:
        return NO_STORY
    if story.ranks()[now] == 0:
        return LOST
    return NONE_DUE


def must_refusal(story, now, v, x):
    if not 0 <= v <= GREATEST_VARIABLE or not 0 <= x <= GREATEST_VALUE:
        return OUT_OF_RANGE
    if len(story.sizes) == 0:
        return NO_STORY
    if v >= len(story.sizes) or x >= story.sizes[v]:
        return NOT_RIGHT
    return lost_refusal(story, now)
