"""What the tests share: calls as lists, answers taken apart, and a plain model of the document to compare with."""

import itertools
import random

from provedhints.stories import answers

FAR = 1000000000000000000


def row(numbers):
    return [len(numbers)] + list(numbers)


def story(sizes, values):
    return [0] + row(sizes) + row(values)


def action(conditions, effects):
    return [1] + row(conditions) + row(effects)


def turn(conditions, effects):
    return [2] + row(conditions) + row(effects)


def good(conditions):
    return [3] + row(conditions)


def bad(conditions):
    return [4] + row(conditions)


def act(a):
    return [5, a]


RESTART = [6]
UNDO = [7]
NOW = [8]
CAN = [9]
HINT = [10]
WAY = [11]
SURVEY = [14]
RANKS = [15]
WAYS = [19]


def rank(n):
    return [12, n]


def choice(a):
    return [13, a]


def check(table):
    return [16] + row(table)


def distance(n, m):
    return [17, n, m]


def must(v, x):
    return [18, v, x]


def state(n):
    return [20, n]


def line_of(calls):
    return [number for call in calls for number in call]


def parted(back):
    """The answers, each as a list of its own; the counts must fit."""
    found = []
    place = 0
    while place < len(back):
        length = back[place]
        assert length > 0 and place + 1 + length <= len(back), back
        found.append(back[place + 1:place + 1 + length])
        place = place + 1 + length
    return found


def ask(*calls):
    found = parted(answers(line_of(calls)))
    assert len(found) == len(calls), (len(found), len(calls))
    return found


def last(*calls):
    return ask(*calls)[-1]


def numbered(sizes, values):
    """The number of a state, as the document nests it."""
    if len(sizes) == 0:
        return 0
    return values[0] + sizes[0] * numbered(sizes[1:], values[1:])


def long_way():
    """1024 states, and one action that counts through all of them: from state 1, the first, 1023 actions to state 0."""
    return [story([8, 8, 8, 2], [1, 0, 0, 0]), action([], [0, 1, 1]), turn([0, 0, 0], [1, 1, 1]),
            turn([0, 0, 0, 1, 0, 0], [2, 1, 1]), turn([0, 0, 0, 1, 0, 0, 2, 0, 0], [3, 1, 1]),
            good([0, 0, 0, 1, 0, 0, 2, 0, 0, 3, 0, 0])]


def threes(numbers):
    return [tuple(numbers[k:k + 3]) for k in range(0, len(numbers), 3)]


class Model:
    """The document word by word, without any table, slow and plain. It answers calls told as lists."""

    def __init__(self):
        self.sizes = None

    def answer(self, call):
        number = call[0]
        rows, rest = [], call[1:]
        if number <= 4 or number == 16:
            while rest:
                rows.append(rest[1:1 + rest[0]])
                rest = rest[1 + rest[0]:]
        if number == 0:
            return self.story(rows[0], rows[1])
        if number <= 4:
            return self.rule(number, rows[0], rows[1] if number <= 2 else [])
        due = self.due(number, rows[0] if rows else rest)
        if due:
            return [max(due)]
        return self.answered(number, rows[0] if rows else rest)

    def due(self, number, given):
        """All refusals that are due in the calls 5 to 20."""
        ranges = {5: (15,), 12: (1023,), 13: (15,), 17: (1023, 1023), 18: (7, 7), 20: (1023,), 16: (1025,) * len(given)}
        found = [-1 for x, most in zip(given, ranges.get(number, ())) if x < 0 or x > most]
        if number == 16 and len(given) > 1024:
            found.append(-1)
        if self.sizes is None:
            return found + [-2]
        if number in (5, 13):
            found += [-3] * (given[0] not in range(len(self.lists[1]))) + [-5] * (self.kind(self.now) != 0)
            found += [-6] * (given[0] not in self.can(self.now))
        if number in (12, 17, 20) and any(n not in range(len(self.states())) for n in given):
            found.append(-4)
        if number == 7 and not self.past:
            found.append(-9)
        if number == 18 and (given[0] not in range(len(self.sizes)) or given[1] not in range(self.sizes[given[0]])):
            found.append(-8)
        if number in (11, 18, 19) and self.steps(self.now) is None:
            found.append(-10)
        return found

    def answered(self, number, given):
        if number == 5:
            return self.act(given[0])
        if number == 6:
            self.now, self.past = self.first, []
        if number == 7:
            self.now = self.past.pop()
        if number in (6, 7, 8):
            return self.told(self.now)
        if number == 9:
            return [0] + self.can(self.now)
        if number == 10:
            return self.hint(self.now)
        if number == 11:
            return [0] + self.way()
        if number == 12:
            return [0, self.more(self.steps(self.states()[given[0]]))]
        if number == 13:
            return self.choice(given[0])
        if number == 14:
            return self.survey()
        if number == 15:
            return [0] + self.table()
        if number == 16:
            return [0, 1 if self.accepts(given) else 0]
        if number == 17:
            return [0, self.more(self.distance(self.states()[given[0]], self.states()[given[1]]))]
        if number == 18:
            return [0, 1 if self.must(given[0], given[1]) else 0]
        if number == 19:
            return [0, self.ways() % 1000000007]
        return self.told(self.states()[given[0]])

    def story(self, sizes, values):
        if not 1 <= len(sizes) <= 8 or len(values) != len(sizes) or any(s < 2 or s > 8 for s in sizes):
            return [-1]
        states = 1
        for s in sizes:
            states *= s
        if states > 1024 or any(x < 0 or x >= s for x, s in zip(values, sizes)):
            return [-1]
        self.sizes = list(sizes)
        self.now = self.first = tuple(values)
        self.past = []
        self.lists = {1: [], 2: [], 3: [], 4: []}
        self.known = {}
        return [0, states]

    def rule(self, number, conditions, effects):
        if len(conditions) > 24 or len(effects) > 24:
            return [-1]
        if self.sizes is None:
            return [-2]
        there = self.lists[number]
        if len(there) == {1: 16, 2: 8, 3: 4, 4: 4}[number]:
            return [-7]
        if len(conditions) % 3 or len(effects) % 3:
            return [-8]
        variables = range(len(self.sizes))
        for v, rel, x in threes(conditions):
            if v not in variables or rel not in (0, 1) or x not in range(self.sizes[v]):
                return [-8]
        for v, op, x in threes(effects):
            if v not in variables or op not in (0, 1, 2) or x not in (variables if op == 2 else range(8)):
                return [-8]
        there.append((threes(conditions), threes(effects)))
        self.known = {}
        return [0, len(there) - 1]

    def hold(self, conditions, state):
        return all((state[v] == x) == (rel == 0) for v, rel, x in conditions)

    def done(self, effects, state):
        values = list(state)
        for v, op, x in effects:
            values[v] = (x, values[v] + x, values[x % len(values)])[op] % self.sizes[v]
        return tuple(values)

    def kind(self, state):
        if any(self.hold(conditions, state) for conditions, none in self.lists[4]):
            return 2
        return 1 if any(self.hold(conditions, state) for conditions, none in self.lists[3]) else 0

    def can(self, state):
        if self.kind(state) != 0:
            return []
        return [a for a, (conditions, effects) in enumerate(self.lists[1]) if self.hold(conditions, state)]

    def leads(self, state, a):
        state = self.done(self.lists[1][a][1], state)
        for conditions, effects in self.lists[2]:
            if self.hold(conditions, state):
                state = self.done(effects, state)
        return state

    def told(self, state):
        return [0, numbered(self.sizes, state), self.kind(state)] + list(state)

    def act(self, a):
        self.past = (self.past + [self.now])[-200:]
        self.now = self.leads(self.now, a)
        return self.told(self.now)

    def states(self):
        """By number: variable 0 changes first."""
        return [values[::-1] for values in itertools.product(*[range(size) for size in self.sizes[::-1]])]

    def more(self, number):
        return 0 if number is None else number + 1

    def steps(self, state):
        if state not in self.known:
            self.known[state] = self.least(state, lambda other: self.kind(other) == 1)
        return self.known[state]

    def distance(self, state, other):
        return self.least(state, lambda met: met == other)

    def least(self, state, wanted):
        """Forwards, all rows of actions at once, until a wanted state is met or no new state comes."""
        seen, layer, steps = {state}, [state], 0
        while layer:
            if any(wanted(s) for s in layer):
                return steps
            ahead = []
            for s in layer:
                for a in self.can(s):
                    t = self.leads(s, a)
                    if t not in seen:
                        seen.add(t)
                        ahead.append(t)
            layer, steps = ahead, steps + 1
        return None

    def hint(self, state):
        steps = self.steps(state)
        if steps is None:
            return [0, 0]
        if steps == 0:
            return [0, 1, 0]
        for a in self.can(state):
            if self.steps(self.leads(state, a)) == steps - 1:
                return [0, 1, steps, a]

    def way(self):
        state, found = self.now, []
        while len(self.hint(state)) == 4:
            found.append(self.hint(state)[3])
            state = self.leads(state, found[-1])
        return found

    def choice(self, a):
        state = self.leads(self.now, a)
        back = 0 if self.distance(state, self.now) is None else 1
        return [0, numbered(self.sizes, state), self.more(self.steps(self.now)), self.more(self.steps(state)),
                self.kind(state), back]

    def survey(self):
        met = [state for state in self.states() if self.distance(self.first, state) is not None]
        kinds = [(self.kind(state), self.steps(state) is None) for state in met]
        return [0, len(met), kinds.count((1, False)), kinds.count((2, True)), kinds.count((0, False)),
                kinds.count((0, True))]

    def table(self):
        return [self.more(self.steps(state)) for state in self.states()]

    def accepts(self, table):
        """The checker, word by word."""
        states = self.states()
        if len(table) != len(states):
            return False
        for state, r in zip(states, table):
            ahead = [table[numbered(self.sizes, self.leads(state, a))] for a in self.can(state)]
            if self.kind(state) == 1:
                right = r == 1
            elif r == 0:
                right = all(number == 0 for number in ahead)
            else:
                right = r != 1 and r - 1 in ahead and all(number == 0 or number >= r - 1 for number in ahead)
            if not right:
                return False
        return True

    def must(self, v, x):
        """By all pairs of a state and whether the value has been met on a row that leads to it."""
        seen = [(self.now, self.now[v] == x)]
        for state, met in seen:
            if self.kind(state) == 1 and not met:
                return False
            for a in self.can(state):
                t = self.leads(state, a)
                if (t, met or t[v] == x) not in seen:
                    seen.append((t, met or t[v] == x))
        return True

    def ways(self):
        """All rows of so many actions, counted by the states that they lead to."""
        rows = {self.now: 1}
        for k in range(self.steps(self.now)):
            ahead = {}
            for state, count in rows.items():
                for a in self.can(state):
                    t = self.leads(state, a)
                    ahead[t] = ahead.get(t, 0) + count
            rows = ahead
        return sum(count for state, count in rows.items() if self.kind(state) == 1)


def some_conditions(rng, sizes, most, least=0):
    found = []
    for k in range(rng.randint(least, most)):
        v = rng.randrange(len(sizes))
        found += [v, rng.choice((0, 0, 1)), rng.randrange(sizes[v])]
    return found


def some_effects(rng, sizes, most, least=0):
    found = []
    for k in range(rng.randint(least, most)):
        op = rng.choice((0, 1, 1, 1, 2))
        found += [rng.randrange(len(sizes)), op, rng.randrange(len(sizes) if op == 2 else 8)]
    return found


def some_end(rng, sizes, most):
    """Conditions of which no two speak of one variable: some state fulfils them."""
    chosen = rng.sample(range(len(sizes)), rng.randint(1, min(most, len(sizes))))
    return [number for v in chosen for number in (v, 0, rng.randrange(sizes[v]))]


def some_sizes(rng, most_states):
    sizes = [rng.randint(2, min(8, most_states))]
    while len(sizes) < 8 and rng.random() < 0.75:
        sizes.append(rng.choice((2, 2, 2, 3, 3, 4, 5, 8)))
    states = 1
    fitting = []
    for size in sizes:
        if states * size <= most_states:
            states *= size
            fitting.append(size)
    return fitting


def some_story(rng, most_states=120):
    """The calls of a whole story that is right: the story, then actions, turn rules and ends in some order."""
    sizes = some_sizes(rng, most_states)
    told = [action(some_conditions(rng, sizes, 1), some_effects(rng, sizes, 2, 1)) for k in range(rng.randint(2, 7))]
    told += [turn(some_conditions(rng, sizes, 3, 1), some_effects(rng, sizes, 2)) for k in range(rng.randint(0, 3))]
    told += [good(some_end(rng, sizes, 4)) for k in range(rng.choice((0, 1, 1, 1, 2)))]
    told += [bad(some_end(rng, sizes, 3)) for k in range(rng.randint(0, 1))]
    rng.shuffle(told)
    return sizes, [story(sizes, [rng.randrange(s) for s in sizes])] + told


def source(seed):
    return random.Random(seed)
