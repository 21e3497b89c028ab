"""What is known of rows of actions: the hinted one, how many are as short, what none goes round, how far they lead."""

from provedhints.kinds import BAD_END, GOES_ON, GOOD_END
from provedhints.steps import distances_from

WAYS_MODULUS = 1000000007


# Asked only of a state that isn't lost: there hints lead to a good end, which has the rank 1.
def way_from(story, start):
    ranks = story.ranks()
    way = []
    n = start
    while ranks[n] > 1:
        a = story.hinted_action(n)
        way.append(a)
        n = story.leads_to(n, a)
    return way


# From how many rows that lead to each state of one rank, to how many lead to each state of the next.
def counts_ahead(ahead, ranks, counts, rank):
    found = {}
    for n in counts:
        for m in ahead[n]:
            if ranks[m] == rank:
                found[m] = (found.get(m, 0) + counts[n]) % WAYS_MODULUS
    return found


# In a row that is as short as may be, each action leads to a state of one step less.
def how_many_ways(story, start):
    ranks = story.ranks()
    counts = {start: 1}
    for rank in range(ranks[start] - 1, 0, -1):
        counts = counts_ahead(story.states_ahead(), ranks, counts, rank)
    return sum(counts.values()) % WAYS_MODULUS


# Nothing is walked on from a state that has the value: a row through it has had the value.
def can_go_round(story, start, v, x):
    total = len(story.kinds)
    without = [story.state_values[n][v] != x for n in range(total)]
    ahead = story.states_ahead()
    distances = distances_from([ahead[n] if without[n] else [] for n in range(total)], start)
    for n in range(total):
        if distances[n] > 0 and without[n] and story.kinds[n] == GOOD_END:
            return True
    return False


def survey_of(story):
    distances = distances_from(story.states_ahead(), story.first)
    ranks = story.ranks()
    met = [n for n in range(len(distances)) if distances[n] > 0]
    good = len([n for n in met if story.kinds[n] == GOOD_END])
    bad = len([n for n in met if story.kinds[n] == BAD_END])
    lost = len([n for n in met if story.kinds[n] == GOES_ON and ranks[n] == 0])
    return [len(met), good, bad, len(met) - good - bad - lost, lost]
