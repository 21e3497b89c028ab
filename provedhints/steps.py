"""How many actions lie between states, told with one more: 0 where no row of actions leads from one to the other."""

from provedhints.kinds import GOOD_END


# For each state: the states from which one action leads to it.
def states_before(ahead):
    before = [[] for n in range(len(ahead))]
    for n in range(len(ahead)):
        for m in ahead[n]:
            before[m].append(n)
    return before


# Gives the number to all states that are beside those of the layer and have none yet.
def next_layer(beside, numbers, layer, number):
    found = []
    for n in layer:
        for m in beside[n]:
            if numbers[m] == 0:
                numbers[m] = number
                found.append(m)
    return found


# Layer by layer, the states of the first layer with 1: so a state gets the least number that it can have.
def numbers_from(beside, first_layer):
    numbers = [0] * len(beside)
    for n in first_layer:
        numbers[n] = 1
    layer = first_layer
    number = 1
    while len(layer) > 0:
        number = number + 1
        layer = next_layer(beside, numbers, layer, number)
    return numbers


# The steps of every state, told with one more: its rank. Backwards from all good ends at once.
def ranks_of(kinds, ahead):
    good_ends = [n for n in range(len(kinds)) if kinds[n] == GOOD_END]
    return numbers_from(states_before(ahead), good_ends)


# The distance from n to every state, told with one more.
def distances_from(ahead, n):
    return numbers_from(ahead, [n])
