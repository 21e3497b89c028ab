"""The steps of every state, told with one more: its rank, which is 0 where it is lost."""

from provedhints.kinds import GOES_ON, GOOD_END


# For each state: the states from which one action leads to it.
def states_before(story):
    before = [[] for n in range(len(story.kinds))]
    for n in range(len(story.kinds)):
        if story.kinds[n] == GOES_ON:
            for a in story.actions_in(n):
                before[story.leads_to(n, a)].append(n)
    return before


# Gives the rank to all states that are one action before those of the layer and have none yet.
def next_layer(before, ranks, layer, rank):
    found = []
    for n in layer:
        for m in before[n]:
            if ranks[m] == 0:
                ranks[m] = rank
                found.append(m)
    return found


# From the good ends backwards, layer by layer: so a state gets the least rank that it can have.
def ranks_of(story):
    before = states_before(story)
    ranks = [0] * len(story.kinds)
    layer = [n for n in range(len(story.kinds)) if story.kinds[n] == GOOD_END]
    for n in layer:
        ranks[n] = 1
    rank = 1
    while len(layer) > 0:
        rank = rank + 1
        layer = next_layer(before, ranks, layer, rank)
    return ranks
