"""One game: a story, the state now and what can be undone. Each call gives back the numbers that it answers."""

from provedhints.checker import accepts
from provedhints.refusals import NONE_DUE, action_refusal, call_refusal, lost_refusal, must_refusal, rule_refusal
from provedhints.refusals import states_refusal, story_refusal, table_refusal, undo_refusal
from provedhints.rows import can_go_round, how_many_ways, survey_of, way_from
from provedhints.steps import distances_from
from provedhints.story import Story

MOST_ACTIONS = 16
MOST_TURNS = 8
MOST_GOOD_ENDS = 4
MOST_BAD_ENDS = 4
MOST_UNDONE = 200


class Game:
    def __init__(self):
        self.story = Story([], [])
        self.now = 0
        self.past = []

    def begin(self, sizes, first_values):
        refusal = story_refusal(sizes, first_values)
        if refusal != NONE_DUE:
            return [refusal]
        self.story = Story(sizes, first_values)
        self.now = self.story.first
        self.past = []
        return [0, len(self.story.kinds)]

    def tell_action(self, conditions, effects):
        count = len(self.story.effected)
        refusal = rule_refusal(self.story, count, MOST_ACTIONS, conditions, effects)
        if refusal != NONE_DUE:
            return [refusal]
        return [0, self.story.add_action(conditions, effects)]

    def tell_turn(self, conditions, effects):
        refusal = rule_refusal(self.story, self.story.turn_count, MOST_TURNS, conditions, effects)
        if refusal != NONE_DUE:
            return [refusal]
        return [0, self.story.add_turn(conditions, effects)]

    def tell_good(self, conditions):
        refusal = rule_refusal(self.story, self.story.good_count, MOST_GOOD_ENDS, conditions, [])
        if refusal != NONE_DUE:
            return [refusal]
        return [0, self.story.add_good(conditions)]

    def tell_bad(self, conditions):
        refusal = rule_refusal(self.story, self.story.bad_count, MOST_BAD_ENDS, conditions, [])
        if refusal != NONE_DUE:
            return [refusal]
        return [0, self.story.add_bad(conditions)]

    def act(self, a):
        refusal = action_refusal(self.story, self.now, a)
        if refusal != NONE_DUE:
            return [refusal]
        self.past.append(self.now)
        if len(self.past) > MOST_UNDONE:
            self.past.pop(0)
        self.now = self.story.leads_to(self.now, a)
        return self.state_answered(self.now)

    def restart(self):
        refusal = call_refusal(self.story)
        if refusal != NONE_DUE:
            return [refusal]
        self.now = self.story.first
        self.past = []
        return self.state_answered(self.now)

    def undo(self):
        refusal = undo_refusal(self.story, self.past)
        if refusal != NONE_DUE:
            return [refusal]
        self.now = self.past.pop()
        return self.state_answered(self.now)

    def tell_now(self):
        refusal = call_refusal(self.story)
        if refusal != NONE_DUE:
            return [refusal]
        return self.state_answered(self.now)

    def can(self):
        refusal = call_refusal(self.story)
        if refusal != NONE_DUE:
            return [refusal]
        return [0] + self.story.actions_in(self.now)

    def hint(self):
        refusal = call_refusal(self.story)
        if refusal != NONE_DUE:
            return [refusal]
        rank = self.story.ranks()[self.now]
        if rank == 0:
            return [0, 0]
        if rank == 1:
            return [0, 1, 0]
        return [0, 1, rank - 1, self.story.hinted_action(self.now)]

    def way(self):
        refusal = lost_refusal(self.story, self.now)
        if refusal != NONE_DUE:
            return [refusal]
        return [0] + way_from(self.story, self.now)

    def rank(self, n):
        refusal = states_refusal(self.story, [n])
        if refusal != NONE_DUE:
            return [refusal]
        return [0, self.story.ranks()[n]]

    def choice(self, a):
        refusal = action_refusal(self.story, self.now, a)
        if refusal != NONE_DUE:
            return [refusal]
        n = self.story.leads_to(self.now, a)
        ranks = self.story.ranks()
        back = distances_from(self.story.states_ahead(), n)[self.now]
        return [0, n, ranks[self.now], ranks[n], self.story.kinds[n], 1 if back > 0 else 0]

    def survey(self):
        refusal = call_refusal(self.story)
        if refusal != NONE_DUE:
            return [refusal]
        return [0] + survey_of(self.story)

    def tell_ranks(self):
        refusal = call_refusal(self.story)
        if refusal != NONE_DUE:
            return [refusal]
        return [0] + self.story.ranks()

    def check(self, table):
        refusal = table_refusal(self.story, table)
        if refusal != NONE_DUE:
            return [refusal]
        return [0, 1 if accepts(self.story, table) else 0]

    def distance(self, n, m):
        refusal = states_refusal(self.story, [n, m])
        if refusal != NONE_DUE:
            return [refusal]
        return [0, distances_from(self.story.states_ahead(), n)[m]]

    def must(self, v, x):
        refusal = must_refusal(self.story, self.now, v, x)
        if refusal != NONE_DUE:
            return [refusal]
        return [0, 0 if can_go_round(self.story, self.now, v, x) else 1]

    def ways(self):
        refusal = lost_refusal(self.story, self.now)
        if refusal != NONE_DUE:
            return [refusal]
        return [0, how_many_ways(self.story, self.now)]

    def tell_state(self, n):
        refusal = states_refusal(self.story, [n])
        if refusal != NONE_DUE:
            return [refusal]
        return self.state_answered(n)

    def state_answered(self, n):
        return [0, n, self.story.kinds[n]] + self.story.state_values[n]
