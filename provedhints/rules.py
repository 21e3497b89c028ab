"""Conditions and effects: which are right, when conditions hold, what effects do.

Both are told as one list with three numbers each: v, rel, x and v, op, x.
"""

EQUAL = 0
UNEQUAL = 1

SET = 0
ADD = 1
COPY = 2

GREATEST_OPERAND = 7


def condition_right(sizes, v, rel, x):
    if not 0 <= v < len(sizes):
        return False
    if rel != EQUAL and rel != UNEQUAL:
        return False
    return 0 <= x < sizes[v]


def conditions_right(sizes, conditions):
    if len(conditions) % 3 != 0:
        return False
    for k in range(0, len(conditions), 3):
        if not condition_right(sizes, conditions[k], conditions[k + 1], conditions[k + 2]):
            return False
    return True


def effect_right(sizes, v, op, x):
    if not 0 <= v < len(sizes):
        return False
    if op == SET or op == ADD:
        return 0 <= x <= GREATEST_OPERAND
    return op == COPY and 0 <= x < len(sizes)


def effects_right(sizes, effects):
    if len(effects) % 3 != 0:
        return False
    for k in range(0, len(effects), 3):
        if not effect_right(sizes, effects[k], effects[k + 1], effects[k + 2]):
            return False
    return True


def condition_holds(values, v, rel, x):
    if rel == EQUAL:
        return values[v] == x
    return values[v] != x


def conditions_hold(conditions, values):
    for k in range(0, len(conditions), 3):
        if not condition_holds(values, conditions[k], conditions[k + 1], conditions[k + 2]):
            return False
    return True


def value_after(sizes, values, v, op, x):
    if op == SET:
        return x % sizes[v]
    if op == ADD:
        return (values[v] + x) % sizes[v]
    return values[x] % sizes[v]


def values_after(sizes, effects, values):
    after = list(values)
    for k in range(0, len(effects), 3):
        v = effects[k]
        after[v] = value_after(sizes, after, v, effects[k + 1], effects[k + 2])
    return after
