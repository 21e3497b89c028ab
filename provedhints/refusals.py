"""Which refusal is due. What is nearest to 0 is looked for first, so it is the one that is answered."""

from provedhints.kinds import GOES_ON
from provedhints.rules import conditions_right, effects_right
from provedhints.states import how_many_states

NONE_DUE = 0
OUT_OF_RANGE = -1
NO_STORY = -2
NO_SUCH_ACTION = -3
AT_AN_END = -5
CANNOT_BE_DONE = -6
AS_MANY_AS_MAY_BE = -7
NOT_RIGHT = -8
NOTHING_TO_UNDO = -9

MOST_VARIABLES = 8
LEAST_SIZE = 2
GREATEST_SIZE = 8
MOST_STATES = 1024
MOST_RULE_NUMBERS = 24
GREATEST_ACTION = 15


def sizes_right(sizes):
    if not 1 <= len(sizes) <= MOST_VARIABLES:
        return False
    for size in sizes:
        if not LEAST_SIZE <= size <= GREATEST_SIZE:
            return False
    return how_many_states(sizes) <= MOST_STATES


def story_refusal(sizes, first_values):
    if not sizes_right(sizes) or len(first_values) != len(sizes):
        return OUT_OF_RANGE
    for v in range(len(sizes)):
        if not 0 <= first_values[v] < sizes[v]:
            return OUT_OF_RANGE
    return NONE_DUE


def call_refusal(story):
    if len(story.sizes) == 0:
        return NO_STORY
    return NONE_DUE


# For all that is added to a story; an end has no effects.
def rule_refusal(story, count, most, conditions, effects):
    if len(conditions) > MOST_RULE_NUMBERS or len(effects) > MOST_RULE_NUMBERS:
        return OUT_OF_RANGE
    if len(story.sizes) == 0:
        return NO_STORY
    if count >= most:
        return AS_MANY_AS_MAY_BE
    if not conditions_right(story.sizes, conditions) or not effects_right(story.sizes, effects):
        return NOT_RIGHT
    return NONE_DUE


def action_refusal(story, now, a):
    if not 0 <= a <= GREATEST_ACTION:
        return OUT_OF_RANGE
    if len(story.sizes) == 0:
        return NO_STORY
    if a >= len(story.effected):
        return NO_SUCH_ACTION
    if story.kinds[now] != GOES_ON:
        return AT_AN_END
    if not story.can_be_done(now, a):
        return CANNOT_BE_DONE
    return NONE_DUE


def undo_refusal(story, past):
    if len(story.sizes) == 0:
        return NO_STORY
    if len(past) == 0:
        return NOTHING_TO_UNDO
    return NONE_DUE
