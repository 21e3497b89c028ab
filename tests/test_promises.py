"""Promises 1, 2, 5 and 6, and whole lines against the plain model of the document."""

import unittest

from tests.helper import (CAN, FAR, HINT, NOW, RESTART, UNDO, Model, act, action, ask, bad, good, last, some_conditions,
                          some_effects, some_sizes, some_story, source, story, turn)


def states_at_a_distance(calls):
    """All states that actions lead to from the first values, as the program itself plays them: number to row of actions."""
    rows = {last(*calls, NOW)[1]: []}
    waiting = [[]]
    while waiting:
        taken = waiting.pop(0)
        for a in last(*calls, *[act(b) for b in taken], CAN)[1:]:
            row = taken + [a]
            number = last(*calls, *[act(b) for b in row])[1]
            if number not in rows:
                rows[number] = row
                waiting.append(row)
    return rows


class WhoFollowsHints(unittest.TestCase):
    """Promise 1."""

    def test_is_at_a_good_end_in_just_the_told_number_of_actions(self):
        met = 0
        for seed in range(300):
            sizes, calls = some_story(source(seed))
            told = last(*calls, HINT)
            row = []
            while told[1:2] == [1] and len(told) == 4:
                row.append(told[3])
                state, ahead = ask(*calls, *[act(a) for a in row], HINT)[-2:]
                self.assertEqual(ahead[:3], [0, 1, told[2] - 1])
                self.assertEqual(state[2] == 1, told[2] == 1)
                told = ahead
                met += 1
        self.assertGreater(met, 100)


class NoRowIsSooner(unittest.TestCase):
    """Promise 2, by all rows of actions that the program itself plays."""

    def test_no_row_is_at_a_good_end_sooner_and_from_a_lost_state_none_comes_to_one(self):
        lost = found = 0
        for seed in range(60):
            sizes, calls = some_story(source(1000 + seed), 24)
            rows = states_at_a_distance(calls)
            ends = [len(row) for number, row in rows.items() if last(*calls, *[act(a) for a in row], NOW)[2] == 1]
            told = last(*calls, HINT)
            if ends:
                self.assertEqual(told[1:3], [1, min(ends)])
                found += 1
            else:
                self.assertEqual(told, [0, 0])
                lost += 1
        self.assertGreater(found, 5)
        self.assertGreater(lost, 5)


class OrderOfTheActions(unittest.TestCase):
    """Promise 5."""

    def test_makes_no_difference_to_the_steps(self):
        for seed in range(200):
            rng = source(2000 + seed)
            sizes, calls = some_story(rng)
            told = last(*calls, HINT)
            actions = [call for call in calls if call[0] == 1]
            rest = [call for call in calls[1:] if call[0] != 1]
            for turned in (actions[::-1], rng.sample(actions, len(actions))):
                self.assertEqual(last(calls[0], *turned, *rest, HINT)[:3], told[:3])


class ARefusedCall(unittest.TestCase):
    """Promise 6: with refused calls strewn in, all other answers are the same."""

    wrong = [story([], []), story([1], [0]), story([2], [2]), story([8] * 4, [0] * 4), story([2] * 1030, [FAR] * 1030),
             action([0], []), action([], [0, 3, 0]), action([8, 0, 0], []), action([0] * 25, []), action([], [0] * 1030),
             turn([0, 2, 0], []), turn([], [0, 0, 8]), turn([0] * 27, []), turn([], [FAR] * 3), turn([], [0, 0]),
             good([0, 0, 8]), good([0] * 30), good([0, 0]), bad([-1, 0, 0]), bad([FAR] * 24), bad([0] * 1030),
             act(-1), act(16), act(FAR), act(-FAR), act(15)]

    def test_changes_nothing(self):
        for seed in range(150):
            rng = source(3000 + seed)
            sizes, calls = some_story(rng)
            for k in range(40):
                calls.append(rng.choice([act(0), act(0), act(1), act(2), act(4), UNDO, RESTART, NOW, CAN, HINT]))
            plain = ask(*calls)
            strewn, wanted = [], []
            for call, answer in zip(calls, plain):
                strewn.append(call)
                wanted.append(answer)
                wrong = rng.choice(self.wrong)
                strewn.append(wrong)
                wanted.append(None)
            for answer, due in zip(ask(*strewn), wanted):
                if due is None:
                    self.assertEqual(len(answer), 1)
                    self.assertLess(answer[0], 0)
                else:
                    self.assertEqual(answer, due)


def some_numbers(rng, sizes):
    """Three numbers each, mostly, and mostly near to what is right."""
    length = rng.choice((0, 1, 2, 3, 3, 3, 6, 6, 9, 21, 23, 24, 25, 27, 1030))
    return [rng.choice((0, 0, 0, 0, 1, 1, 1, 2, 2, rng.randrange(9), -1, FAR)) for k in range(length)]


def some_call(rng, sizes):
    kind = rng.random()
    if kind < 0.45:
        return rng.choice((act(0), act(1), act(2), act(rng.randrange(17)), UNDO, UNDO, NOW, CAN, HINT, HINT))
    if kind < 0.48:
        return rng.choice((RESTART, act(-1), act(FAR)))
    if kind < 0.5:
        sizes = some_sizes(rng, 60)
        return story(sizes, [rng.randrange(size + 1) for size in sizes])
    wild = kind < 0.65
    conditions = some_numbers(rng, sizes) if wild and rng.random() < 0.5 else some_conditions(rng, sizes, 3)
    effects = some_numbers(rng, sizes) if wild and rng.random() < 0.5 else some_effects(rng, sizes, 3)
    return rng.choice((action(conditions, effects), action(conditions, effects), turn(conditions, effects),
                       good(conditions), bad(conditions + some_conditions(rng, sizes, 3))))


class WholeLines(unittest.TestCase):
    def compare(self, calls):
        model = Model()
        for k, answer in enumerate(ask(*calls)):
            self.assertEqual(answer, model.answer(calls[k]), calls[:k + 1])

    def test_stories_that_are_right(self):
        for seed in range(200):
            rng = source(4000 + seed)
            sizes, calls = some_story(rng, 64)
            for k in range(30):
                calls.append(rng.choice((act(0), act(1), act(2), act(3), UNDO, NOW, CAN, HINT, HINT)))
            self.compare(calls)

    def test_all_sorts_of_calls(self):
        for seed in range(200):
            rng = source(5000 + seed)
            sizes = some_sizes(rng, 60)
            calls = [some_call(rng, sizes) for k in range(rng.randint(0, 3))]
            calls.append(story(sizes, [rng.randrange(size) for size in sizes]))
            calls += [some_call(rng, sizes) for k in range(60)]
            self.compare(calls)

    def test_great_stories(self):
        for seed, sizes in enumerate(([8, 8, 8, 2], [4] * 5, [2] * 7 + [8], [5, 5, 5, 8], [7, 7, 7, 2])):
            rng = source(6000 + seed)
            calls = [story(sizes, [0] * len(sizes))]
            calls += [action(some_conditions(rng, sizes, 1), some_effects(rng, sizes, 2)) for k in range(5)]
            calls += [turn(some_conditions(rng, sizes, 3), some_effects(rng, sizes, 2)) for k in range(2)]
            end = [number for v, size in enumerate(sizes) for number in (v, 0, size - 1)]
            calls += [good(end[:9]), HINT, act(0), HINT, act(1), HINT, NOW, CAN, UNDO, UNDO, UNDO]
            self.compare(calls)


if __name__ == "__main__":
    unittest.main()
