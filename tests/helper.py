"""What the tests share: calls as lists, answers taken apart, and a plain model of the document to compare with."""

import random

from provedhints.stories import answers

FAR = 1000000000000000000


def row(numbers):
    return [len(numbers)] + list(numbers)


def story(sizes, values):
    return [0] + row(sizes) + row(values)


def action(conditions, effects):
    return [1] + row(conditions) + row(effects)


def turn(conditions, effects):
    return [2] + row(conditions) + row(effects)


def good(conditions):
    return [3] + row(conditions)


def bad(conditions):
    return [4] + row(conditions)


def act(a):
    return [5, a]


RESTART = [6]
UNDO = [7]
NOW = [8]
CAN = [9]
HINT = [10]


def line_of(calls):
    return [number for call in calls for number in call]


def parted(back):
    """The answers, each as a list of its own; the counts must fit."""
    found = []
    place = 0
    while place < len(back):
        length = back[place]
        assert length > 0 and place + 1 + length <= len(back), back
        found.append(back[place + 1:place + 1 + length])
        place = place + 1 + length
    return found


def ask(*calls):
    found = parted(answers(line_of(calls)))
    assert len(found) == len(calls), (len(found), len(calls))
    return found


def last(*calls):
    return ask(*calls)[-1]


def numbered(sizes, values):
    """The number of a state, as the document nests it."""
    if len(sizes) == 0:
        return 0
    return values[0] + sizes[0] * numbered(sizes[1:], values[1:])


def threes(numbers):
    return [tuple(numbers[k:k + 3]) for k in range(0, len(numbers), 3)]


class Model:
    """The document word by word, without any table, slow and plain. It answers calls told as lists."""

    def __init__(self):
        self.sizes = None

    def answer(self, call):
        number = call[0]
        rows, rest = [], call[1:]
        if number <= 4:
            while rest:
                rows.append(rest[1:1 + rest[0]])
                rest = rest[1 + rest[0]:]
            if number == 0:
                return self.story(rows[0], rows[1])
            return self.rule(number, rows[0], rows[1] if number <= 2 else [])
        if number == 5:
            return self.act(call[1])
        if self.sizes is None:
            return [-2]
        if number == 6:
            self.now, self.past = self.first, []
        if number == 7:
            if not self.past:
                return [-9]
            self.now = self.past.pop()
        if number == 9:
            return [0] + self.can(self.now)
        if number == 10:
            return self.hint()
        return self.told()

    def story(self, sizes, values):
        if not 1 <= len(sizes) <= 8 or len(values) != len(sizes) or any(s < 2 or s > 8 for s in sizes):
            return [-1]
        states = 1
        for s in sizes:
            states *= s
        if states > 1024 or any(x < 0 or x >= s for x, s in zip(values, sizes)):
            return [-1]
        self.sizes = list(sizes)
        self.now = self.first = tuple(values)
        self.past = []
        self.lists = {1: [], 2: [], 3: [], 4: []}
        return [0, states]

    def rule(self, number, conditions, effects):
        if len(conditions) > 24 or len(effects) > 24:
            return [-1]
        if self.sizes is None:
            return [-2]
        there = self.lists[number]
        if len(there) == {1: 16, 2: 8, 3: 4, 4: 4}[number]:
            return [-7]
        if len(conditions) % 3 or len(effects) % 3:
            return [-8]
        variables = range(len(self.sizes))
        for v, rel, x in threes(conditions):
            if v not in variables or rel not in (0, 1) or x not in range(self.sizes[v]):
                return [-8]
        for v, op, x in threes(effects):
            if v not in variables or op not in (0, 1, 2) or x not in (variables if op == 2 else range(8)):
                return [-8]
        there.append((threes(conditions), threes(effects)))
        return [0, len(there) - 1]

    def hold(self, conditions, state):
        return all((state[v] == x) == (rel == 0) for v, rel, x in conditions)

    def done(self, effects, state):
        values = list(state)
        for v, op, x in effects:
            values[v] = (x, values[v] + x, values[x % len(values)])[op] % self.sizes[v]
        return tuple(values)

    def kind(self, state):
        if any(self.hold(conditions, state) for conditions, none in self.lists[4]):
            return 2
        return 1 if any(self.hold(conditions, state) for conditions, none in self.lists[3]) else 0

    def can(self, state):
        if self.kind(state) != 0:
            return []
        return [a for a, (conditions, effects) in enumerate(self.lists[1]) if self.hold(conditions, state)]

    def leads(self, state, a):
        state = self.done(self.lists[1][a][1], state)
        for conditions, effects in self.lists[2]:
            if self.hold(conditions, state):
                state = self.done(effects, state)
        return state

    def told(self):
        return [0, numbered(self.sizes, self.now), self.kind(self.now)] + list(self.now)

    def act(self, a):
        if not 0 <= a <= 15:
            return [-1]
        if self.sizes is None:
            return [-2]
        if a >= len(self.lists[1]):
            return [-3]
        if self.kind(self.now) != 0:
            return [-5]
        if a not in self.can(self.now):
            return [-6]
        self.past = (self.past + [self.now])[-200:]
        self.now = self.leads(self.now, a)
        return self.told()

    def steps(self, state):
        """Forwards, all rows of actions at once, until a good end is met or no new state comes."""
        seen, layer, steps = {state}, [state], 0
        while layer:
            if any(self.kind(s) == 1 for s in layer):
                return steps
            ahead = []
            for s in layer:
                for a in self.can(s):
                    t = self.leads(s, a)
                    if t not in seen:
                        seen.add(t)
                        ahead.append(t)
            layer, steps = ahead, steps + 1
        return None

    def hint(self):
        steps = self.steps(self.now)
        if steps is None:
            return [0, 0]
        if steps == 0:
            return [0, 1, 0]
        for a in self.can(self.now):
            if self.steps(self.leads(self.now, a)) == steps - 1:
                return [0, 1, steps, a]


def some_conditions(rng, sizes, most, least=0):
    found = []
    for k in range(rng.randint(least, most)):
        v = rng.randrange(len(sizes))
        found += [v, rng.choice((0, 0, 1)), rng.randrange(sizes[v])]
    return found


def some_effects(rng, sizes, most, least=0):
    found = []
    for k in range(rng.randint(least, most)):
        op = rng.choice((0, 1, 1, 1, 2))
        found += [rng.randrange(len(sizes)), op, rng.randrange(len(sizes) if op == 2 else 8)]
    return found


def some_end(rng, sizes, most):
    """Conditions of which no two speak of one variable: some state fulfils them."""
    chosen = rng.sample(range(len(sizes)), rng.randint(1, min(most, len(sizes))))
    return [number for v in chosen for number in (v, 0, rng.randrange(sizes[v]))]


def some_sizes(rng, most_states):
    sizes = [rng.randint(2, 8)]
    while len(sizes) < 8 and rng.random() < 0.75:
        sizes.append(rng.choice((2, 2, 2, 3, 3, 4, 5, 8)))
    states = 1
    fitting = []
    for size in sizes:
        if states * size <= most_states:
            states *= size
            fitting.append(size)
    return fitting


def some_story(rng, most_states=120):
    """The calls of a whole story that is right: the story, then actions, turn rules and ends in some order."""
    sizes = some_sizes(rng, most_states)
    told = [action(some_conditions(rng, sizes, 1), some_effects(rng, sizes, 2, 1)) for k in range(rng.randint(2, 7))]
    told += [turn(some_conditions(rng, sizes, 3, 1), some_effects(rng, sizes, 2)) for k in range(rng.randint(0, 3))]
    told += [good(some_end(rng, sizes, 4)) for k in range(rng.choice((0, 1, 1, 1, 2)))]
    told += [bad(some_end(rng, sizes, 3)) for k in range(rng.randint(0, 1))]
    rng.shuffle(told)
    return sizes, [story(sizes, [rng.randrange(s) for s in sizes])] + told


def source(seed):
    return random.Random(seed)
