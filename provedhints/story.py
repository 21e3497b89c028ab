"""A story: its states, actions, turn rules and ends.

What a rule does is worked out for every state when the rule is told, so that
nothing that is asked later has to look at conditions and effects again.
"""

from provedhints.kinds import BAD_END, GOES_ON, GOOD_END
from provedhints.rules import conditions_hold, values_after
from provedhints.states import how_many_states, number_of, values_of
from provedhints.steps import ranks_of

NOWHERE = -1


class Story:
    # Without any sizes it stands for there being no story.
    def __init__(self, sizes, first_values):
        total = how_many_states(sizes)
        self.sizes = list(sizes)
        self.first = number_of(sizes, first_values)
        self.state_values = [values_of(sizes, n) for n in range(total)]
        self.kinds = [GOES_ON] * total
        # For each action, for each state: what the effects make of it, or NOWHERE if the conditions don't hold.
        self.effected = []
        # For each state: what all turn rules, in order, make of it.
        self.turned = list(range(total))
        self.turn_count = 0
        self.good_count = 0
        self.bad_count = 0
        # Empty for as long as nobody has asked since the last change.
        self.known_ahead = []
        self.known_ranks = []

    # An action, a turn rule or an end that is new may change what leads where, and all steps with it.
    def forget(self):
        self.known_ahead = []
        self.known_ranks = []

    def state_after(self, conditions, effects, n, otherwise):
        values = self.state_values[n]
        if not conditions_hold(conditions, values):
            return otherwise
        return number_of(self.sizes, values_after(self.sizes, effects, values))

    def add_action(self, conditions, effects):
        after = [self.state_after(conditions, effects, n, NOWHERE) for n in range(len(self.kinds))]
        self.effected.append(after)
        self.forget()
        return len(self.effected) - 1

    # The new rule is the last one, so it goes on with what the others made of a state.
    def add_turn(self, conditions, effects):
        self.turned = [self.state_after(conditions, effects, n, n) for n in self.turned]
        self.forget()
        self.turn_count = self.turn_count + 1
        return self.turn_count - 1

    # A bad end stays one, whatever good ends come behind it.
    def kind_with_good(self, conditions, n):
        if self.kinds[n] != BAD_END and conditions_hold(conditions, self.state_values[n]):
            return GOOD_END
        return self.kinds[n]

    def add_good(self, conditions):
        self.kinds = [self.kind_with_good(conditions, n) for n in range(len(self.kinds))]
        self.forget()
        self.good_count = self.good_count + 1
        return self.good_count - 1

    def kind_with_bad(self, conditions, n):
        if conditions_hold(conditions, self.state_values[n]):
            return BAD_END
        return self.kinds[n]

    def add_bad(self, conditions):
        self.kinds = [self.kind_with_bad(conditions, n) for n in range(len(self.kinds))]
        self.forget()
        self.bad_count = self.bad_count + 1
        return self.bad_count - 1

    def can_be_done(self, n, a):
        return self.kinds[n] == GOES_ON and self.effected[a][n] != NOWHERE

    def actions_in(self, n):
        return [a for a in range(len(self.effected)) if self.can_be_done(n, a)]

    def leads_to(self, n, a):
        return self.turned[self.effected[a][n]]

    # One state an action: a state that several actions lead to stands there several times.
    def ahead_of(self, n):
        return [self.leads_to(n, a) for a in self.actions_in(n)]

    def states_ahead(self):
        if len(self.known_ahead) == 0:
            self.known_ahead = [self.ahead_of(n) for n in range(len(self.kinds))]
        return self.known_ahead

    def ranks(self):
        if len(self.known_ranks) == 0:
            self.known_ranks = ranks_of(self.kinds, self.states_ahead())
        return self.known_ranks

    # Asked only of a state that goes on and isn't lost: there some action leads on.
    def hinted_action(self, n):
        ranks = self.ranks()
        leading = [a for a in self.actions_in(n) if ranks[self.leads_to(n, a)] == ranks[n] - 1]
        return leading[0]
