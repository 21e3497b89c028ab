"""The checker of tables. It looks just one action ahead and works out no steps, so that it can be trusted by itself."""

from provedhints.kinds import GOOD_END


def none_is_nearer(numbers_ahead, least):
    for number in numbers_ahead:
        if number != 0 and number < least:
            return False
    return True


def number_fits(kind, number, numbers_ahead):
    if kind == GOOD_END:
        return number == 1
    if number == 0:
        return numbers_ahead.count(0) == len(numbers_ahead)
    if number == 1 or number - 1 not in numbers_ahead:
        return False
    return none_is_nearer(numbers_ahead, number - 1)


def accepts(story, table):
    if len(table) != len(story.kinds):
        return False
    ahead = story.states_ahead()
    for n in range(len(table)):
        if not number_fits(story.kinds[n], table[n], [table[m] for m in ahead[n]]):
            return False
    return True
