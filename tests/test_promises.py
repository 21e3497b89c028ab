"""Promises 1, 2, 4, 5 and 6, and whole lines against the plain model of the document. Promise 3: test_check.py."""

import unittest

from tests.helper import (CAN, FAR, HINT, NOW, RANKS, RESTART, SURVEY, UNDO, WAY, WAYS, Model, act, action, ask, bad,
                          check, choice, distance, good, last, must, rank, some_conditions, some_effects, some_sizes,
                          some_story, source, state, story, turn)

QUIET = (NOW, CAN, HINT, WAY, SURVEY, RANKS, WAYS)


def played_line(rng):
    """A story that is right, played and asked for a while."""
    sizes, calls = some_story(rng)
    for k in range(40):
        calls.append(rng.choice([act(0), act(0), act(1), act(2), act(4), UNDO, RESTART, *QUIET, choice(0), choice(1),
                                 rank(1), distance(0, 1), must(0, 1), state(1), check([0] * 4)]))
    return calls


def some_question(rng, sizes):
    """One of the calls 8 to 20, with numbers near to what is right."""
    states = 1
    for size in sizes:
        states *= size
    n, m = [rng.choice((0, 1, states - 1, states, rng.randrange(states), rng.randrange(states), 1023, 1024, -1, FAR))
            for k in range(2)]
    v, x = rng.choice((0, rng.randrange(len(sizes)), rng.randrange(9), -1)), rng.choice((0, 1, rng.randrange(9), -1))
    table = [rng.choice((0, 1, 2, 3, 1025)) for k in range(rng.choice((0, states - 1, states, states + 1)))]
    return rng.choice((*QUIET, rank(n), choice(rng.randrange(4)), choice(rng.choice((15, 16, -1))), distance(n, m),
                       distance(n, m), must(v, x), must(v, x), state(n), check(table), check(table + [1026])))


def states_at_a_distance(calls):
    """All states that actions lead to from the first values, as the program itself plays them: number to row of actions."""
    rows = {last(*calls, NOW)[1]: []}
    waiting = [[]]
    while waiting:
        taken = waiting.pop(0)
        for a in last(*calls, *[act(b) for b in taken], CAN)[1:]:
            row = taken + [a]
            number = last(*calls, *[act(b) for b in row])[1]
            if number not in rows:
                rows[number] = row
                waiting.append(row)
    return rows


class WhoFollowsHints(unittest.TestCase):
    """Promise 1."""

    def test_is_at_a_good_end_in_just_the_told_number_of_actions(self):
        met = 0
        for seed in range(300):
            sizes, calls = some_story(source(seed))
            told = last(*calls, HINT)
            row = []
            while told[1:2] == [1] and len(told) == 4:
                row.append(told[3])
                state, ahead = ask(*calls, *[act(a) for a in row], HINT)[-2:]
                self.assertEqual(ahead[:3], [0, 1, told[2] - 1])
                self.assertEqual(state[2] == 1, told[2] == 1)
                told = ahead
                met += 1
        self.assertGreater(met, 100)


    def test_the_way_is_what_they_do(self):
        met = 0
        for seed in range(300):
            sizes, calls = some_story(source(seed))
            told, way, table, n = [last(*calls, call) for call in (HINT, WAY, RANKS, NOW)]
            if told == [0, 0]:
                self.assertEqual((way, table[1 + n[1]]), ([-10], 0))
                continue
            self.assertEqual((len(way) - 1, table[1 + n[1]]), (told[2], told[2] + 1))
            row = []
            for a in way[1:]:
                self.assertEqual(last(*calls, *[act(b) for b in row], HINT), [0, 1, len(way) - 1 - len(row), a])
                row.append(a)
            self.assertEqual(ask(*calls, *[act(b) for b in row], NOW)[-1][2], 1)
            met += len(row)
        self.assertGreater(met, 100)


class NoRowIsSooner(unittest.TestCase):
    """Promise 2, by all rows of actions that the program itself plays."""

    def test_no_row_is_at_a_good_end_sooner_and_from_a_lost_state_none_comes_to_one(self):
        lost = found = 0
        for seed in range(60):
            sizes, calls = some_story(source(1000 + seed), 24)
            rows = states_at_a_distance(calls)
            ends = [len(row) for number, row in rows.items() if last(*calls, *[act(a) for a in row], NOW)[2] == 1]
            told = last(*calls, HINT)
            if ends:
                self.assertEqual(told[1:3], [1, min(ends)])
                found += 1
            else:
                self.assertEqual(told, [0, 0])
                lost += 1
        self.assertGreater(found, 5)
        self.assertGreater(lost, 5)


    def test_of_every_state(self):
        for seed in range(60):
            sizes, calls = some_story(source(1000 + seed), 24)
            table = last(*calls, RANKS)[1:]
            for n in range(len(table)):
                begun = [story(sizes, last(*calls, state(n))[3:])] + calls[1:]
                rows = states_at_a_distance(begun)
                ends = [len(row) for m, row in rows.items() if last(*calls, state(m))[2] == 1]
                self.assertEqual(table[n], min(ends) + 1 if ends else 0)
                self.assertEqual(ask(*calls, *[distance(n, m) for m in range(len(table))])[len(calls):],
                                 [[0, len(rows[m]) + 1 if m in rows else 0] for m in range(len(table))])


class AChoice(unittest.TestCase):
    """Promise 4."""

    def test_what_is_told_of_it_is_what_comes_of_it(self):
        met = set()
        for seed in range(120):
            sizes, calls = some_story(source(1500 + seed), 48)
            now = last(*calls, NOW)
            for a in range(16):
                told = last(*calls, choice(a))
                done = last(*calls, act(a))
                if len(told) == 1:
                    self.assertEqual(told, done)
                    continue
                begun = [story(sizes, done[3:])] + calls[1:]
                steps = [hint[2] + 1 if hint[1] else 0 for hint in (last(*calls, HINT), last(*calls, act(a), HINT))]
                back = 1 if now[1] in states_at_a_distance(begun) else 0
                self.assertEqual(told, [0, done[1], steps[0], steps[1], done[2], back])
                met.add((told[4], told[5], steps[0] > 0, steps[1] > 0))
        self.assertGreaterEqual(len(met), 7)


class OrderOfTheActions(unittest.TestCase):
    """Promise 5."""

    def test_makes_no_difference_to_the_steps(self):
        for seed in range(200):
            rng = source(2000 + seed)
            sizes, calls = some_story(rng)
            told = ask(*calls, HINT, WAY, RANKS, SURVEY, WAYS, distance(0, 1), distance(1, 0))[len(calls):]
            actions = [call for call in calls if call[0] == 1]
            rest = [call for call in calls[1:] if call[0] != 1]
            for turned in (actions[::-1], rng.sample(actions, len(actions))):
                other = [calls[0], *turned, *rest]
                found = ask(*other, HINT, WAY, RANKS, SURVEY, WAYS, distance(0, 1), distance(1, 0))[len(other):]
                self.assertEqual(found[0][:3], told[0][:3])
                self.assertEqual(len(found[1]), len(told[1]))
                self.assertEqual(found[2:], told[2:])

    def test_nor_to_those_of_a_choice(self):
        for seed in range(100):
            sizes, calls = some_story(source(2500 + seed))
            actions = [call for call in calls if call[0] == 1]
            rest = [call for call in calls[1:] if call[0] != 1]
            told = ask(calls[0], *actions, *rest, *[choice(a) for a in range(len(actions))])[len(calls):]
            found = ask(calls[0], *actions[::-1], *rest, *[choice(a) for a in range(len(actions))])[len(calls):]
            self.assertEqual(found[::-1], told)


class ARefusedCall(unittest.TestCase):
    """Promise 6: with refused calls strewn in, all other answers are the same."""

    wrong = [story([], []), story([1], [0]), story([2], [2]), story([8] * 4, [0] * 4), story([2] * 1030, [FAR] * 1030),
             action([0], []), action([], [0, 3, 0]), action([8, 0, 0], []), action([0] * 25, []), action([], [0] * 1030),
             turn([0, 2, 0], []), turn([], [0, 0, 8]), turn([0] * 27, []), turn([], [FAR] * 3), turn([], [0, 0]),
             good([0, 0, 8]), good([0] * 30), good([0, 0]), bad([-1, 0, 0]), bad([FAR] * 24), bad([0] * 1030),
             act(-1), act(16), act(FAR), act(-FAR), act(15), rank(-1), rank(1023), rank(1024), rank(FAR), choice(-1),
             choice(15), choice(16), choice(-FAR), check([1026]), check([0] * 1025), check([-1] * 1030), check([FAR]),
             distance(0, 1023), distance(1023, 0), distance(0, 1024), distance(-1, 0), distance(FAR, -FAR), must(8, 0),
             must(0, 8), must(-1, 0), must(FAR, FAR), state(-1), state(1023), state(1024), state(-FAR)]

    def test_changes_nothing(self):
        for seed in range(150):
            rng = source(3000 + seed)
            calls = played_line(rng)
            strewn = [rng.choice(self.wrong) for call in calls]
            found = ask(*[call for pair in zip(calls, strewn) for call in pair])
            self.assertEqual(found[0::2], ask(*calls))
            for answer in found[1::2]:
                self.assertEqual(len(answer), 1)
                self.assertLess(answer[0], 0)


class WhatIsAsked(unittest.TestCase):
    """With calls 8 to 20 strewn in, whether they are refused or not, all other answers are the same."""

    def test_changes_nothing(self):
        for seed in range(150):
            rng = source(3500 + seed)
            calls = played_line(rng)
            strewn = [some_question(rng, rng.choice(([2], [3, 2], [8, 8]))) for call in calls]
            found = ask(*[call for pair in zip(calls, strewn) for call in pair])
            self.assertEqual(found[0::2], ask(*calls))


def some_numbers(rng, sizes):
    """Three numbers each, mostly, and mostly near to what is right."""
    length = rng.choice((0, 1, 2, 3, 3, 3, 6, 6, 9, 21, 23, 24, 25, 27, 1030))
    return [rng.choice((0, 0, 0, 0, 1, 1, 1, 2, 2, rng.randrange(9), -1, FAR)) for k in range(length)]


def some_call(rng, sizes):
    kind = rng.random()
    if kind < 0.2:
        return rng.choice((act(0), act(1), act(2), act(rng.randrange(17)), UNDO, UNDO))
    if kind < 0.45:
        return some_question(rng, sizes)
    if kind < 0.48:
        return rng.choice((RESTART, act(-1), act(FAR)))
    if kind < 0.5:
        sizes = some_sizes(rng, 60)
        return story(sizes, [rng.randrange(size + 1) for size in sizes])
    wild = kind < 0.65
    conditions = some_numbers(rng, sizes) if wild and rng.random() < 0.5 else some_conditions(rng, sizes, 3)
    effects = some_numbers(rng, sizes) if wild and rng.random() < 0.5 else some_effects(rng, sizes, 3)
    return rng.choice((action(conditions, effects), action(conditions, effects), turn(conditions, effects),
                       good(conditions), bad(conditions + some_conditions(rng, sizes, 3))))


class WholeLines(unittest.TestCase):
    def compare(self, calls):
        model = Model()
        for k, answer in enumerate(ask(*calls)):
            self.assertEqual(answer, model.answer(calls[k]), calls[:k + 1])

    def test_stories_that_are_right(self):
        for seed in range(200):
            rng = source(4000 + seed)
            sizes, calls = some_story(rng, 64)
            for k in range(40):
                calls.append(rng.choice((act(0), act(1), act(2), act(3), UNDO, some_question(rng, sizes))))
            self.compare(calls)

    def test_every_question_of_every_state(self):
        for seed in range(40):
            rng = source(4500 + seed)
            sizes, calls = some_story(rng, 30)
            told = calls[1:]
            model = Model()
            for call in calls:
                model.answer(call)
            table = model.table()
            everywhere = [RANKS, SURVEY, check(table)] + [call for n in range(len(table)) for call in (rank(n), state(n))]
            self.compare(calls + everywhere)
            for values in model.states():
                here = [*QUIET, *[choice(a) for a in range(8)], *[must(v, x) for v in range(len(sizes)) for x in range(8)]]
                self.compare([story(sizes, values)] + told + here)

    def test_all_sorts_of_calls(self):
        for seed in range(200):
            rng = source(5000 + seed)
            sizes = some_sizes(rng, 60)
            calls = [some_call(rng, sizes) for k in range(rng.randint(0, 3))]
            calls.append(story(sizes, [rng.randrange(size) for size in sizes]))
            calls += [some_call(rng, sizes) for k in range(60)]
            self.compare(calls)

    def test_great_stories(self):
        for seed, sizes in enumerate(([8, 8, 8, 2], [4] * 5, [2] * 7 + [8], [5, 5, 5, 8], [7, 7, 7, 2])):
            rng = source(6000 + seed)
            calls = [story(sizes, [0] * len(sizes))]
            calls += [action(some_conditions(rng, sizes, 1), some_effects(rng, sizes, 2)) for k in range(5)]
            calls += [turn(some_conditions(rng, sizes, 3), some_effects(rng, sizes, 2)) for k in range(2)]
            end = [number for v, size in enumerate(sizes) for number in (v, 0, size - 1)]
            calls += [good(end[:9]), HINT, act(0), HINT, act(1), HINT, NOW, CAN, UNDO, UNDO, UNDO]
            calls += [WAY, WAYS, choice(0), choice(1), must(0, 1), must(1, 1), distance(0, 999), distance(998, 3),
                      rank(0), rank(577), rank(999), state(999), state(500)]
            self.compare(calls)

    def test_tables_of_great_stories(self):
        most = 0
        for seed, sizes in enumerate(([8, 8, 8, 2], [4] * 5, [2] * 7 + [8], [5, 5, 5, 8], [7, 7, 7, 2])):
            rng = source(6500 + seed)
            calls = [story(sizes, [0] * len(sizes))]
            calls += [action(some_conditions(rng, sizes, 1), some_effects(rng, sizes, 2, 1)) for k in range(16)]
            calls += [turn(some_conditions(rng, sizes, 3, 1), some_effects(rng, sizes, 2)) for k in range(3)]
            calls += [good([0, 0, 1, 1, 0, 1, 2, 0, 1]), bad([0, 0, 0, 1, 0, 1, 2, 0, 1])]
            table = last(*calls, RANKS)[1:]
            model = Model()
            for call in calls:
                model.answer(call)
            self.assertTrue(model.accepts(table))
            self.assertEqual(last(*calls, check(table)), [0, 1])
            most = max(most, *table)
        self.assertGreater(most, 6)


if __name__ == "__main__":
    unittest.main()
