"""Call 16: check. Promise 3."""

import itertools
import unittest

from tests.helper import (FAR, HINT, NOW, RANKS, UNDO, act, action, ask, bad, check, good, last, long_way, some_story,
                          source, story, turn)

ONE, TWO = action([], [0, 1, 1]), action([], [0, 1, 2])
COUNTER = [story([8], [0]), ONE, TWO, good([0, 0, 6]), bad([0, 0, 5])]
TABLE = [4, 4, 3, 3, 2, 0, 1, 5]


class Refused(unittest.TestCase):
    wrong = ([-1], [1026], [FAR], [-FAR], TABLE[:7] + [1026], TABLE[:7] + [-1], TABLE[:7] + [FAR], [1026] + TABLE[1:],
             [0] * 1025, [0] * 1026, [0] * 1030, [FAR] * 1030, [-FAR] * 1030, [0] * 1023 + [1026], [0] * 1024 + [1026],
             TABLE + [1026], [0, 0, 1026, 0])

    def test_out_of_range(self):
        for table in self.wrong:
            self.assertEqual(last(*COUNTER, check(table)), [-1], table)
        for table in self.wrong:
            self.assertEqual(last(*long_way(), check(table)), [-1], table)

    def test_no_story(self):
        for table in ([], [0], [1025], TABLE, [0] * 1024, [1025] * 1024):
            self.assertEqual(last(check(table)), [-2])

    def test_out_of_range_comes_before_no_story(self):
        for table in self.wrong:
            self.assertEqual(last(check(table)), [-1])

    def test_a_refused_one_changes_nothing(self):
        for table in self.wrong:
            found = ask(*COUNTER, act(0), check(table), NOW, HINT, check(TABLE), RANKS, UNDO, UNDO)
            self.assertEqual(found[7:], [[0, 1, 0, 1], [0, 1, 3, 0], [0, 1], [0] + TABLE, [0, 0, 0, 0], [-9]])


class Accepted(unittest.TestCase):
    def accepted(self, calls, table):
        answer = last(*calls, check(table))
        self.assertIn(answer, ([0, 0], [0, 1]))
        return answer == [0, 1]

    def test_the_table_that_is_answered(self):
        self.assertEqual(last(*COUNTER, RANKS), [0] + TABLE)
        self.assertTrue(self.accepted(COUNTER, TABLE))

    def test_a_number_of_it_changed(self):
        for n in range(8):
            for number in list(range(12)) + [1023, 1024, 1025]:
                table = TABLE[:n] + [number] + TABLE[n + 1:]
                self.assertEqual(self.accepted(COUNTER, table), table == TABLE, table)

    def test_too_short_and_too_long(self):
        for table in (TABLE[:7], TABLE[1:], TABLE[:1], [], TABLE + [0], TABLE + [1], TABLE + [5], TABLE * 2, [0] * 1024,
                      [1025] * 1024, TABLE + [0] * 1016, TABLE + [1025]):
            self.assertFalse(self.accepted(COUNTER, table), table)

    def test_1025_may_stand_in_it(self):
        self.assertFalse(self.accepted(COUNTER, [1025] * 8))
        self.assertFalse(self.accepted(COUNTER, TABLE[:7] + [1025]))
        self.assertFalse(self.accepted(long_way(), [1] + list(range(1025, 2, -1))))

    def test_1024_numbers(self):
        table = [1] + list(range(1024, 1, -1))
        self.assertTrue(self.accepted(long_way(), table))
        for n in (0, 1, 2, 511, 1022, 1023):
            for number in (0, table[n] - 1, table[n] + 1, 1025):
                changed = table[:n] + [number] + table[n + 1:]
                self.assertEqual(self.accepted(long_way(), changed), changed == table)
        self.assertFalse(self.accepted(long_way(), table[:1023]))
        self.assertEqual(last(*long_way(), check(table + [1])), [-1])

    def test_without_actions_or_ends(self):
        self.assertTrue(self.accepted([story([3], [0])], [0, 0, 0]))
        self.assertFalse(self.accepted([story([3], [0])], [0, 0, 1]))
        self.assertFalse(self.accepted([story([3], [0])], [0, 2, 0]))
        self.assertTrue(self.accepted([story([3], [0]), good([0, 0, 2])], [0, 0, 1]))
        self.assertFalse(self.accepted([story([3], [0]), good([0, 0, 2])], [0, 0, 0]))
        self.assertTrue(self.accepted([story([3], [0]), good([])], [1, 1, 1]))
        self.assertFalse(self.accepted([story([3], [0]), good([]), bad([0, 0, 0])], [1, 1, 1]))
        self.assertTrue(self.accepted([story([3], [0]), good([]), bad([0, 0, 0])], [0, 1, 1]))

    def test_a_circle_that_never_comes_to_a_good_end(self):
        circle = [story([4], [0]), ONE, turn([0, 0, 3], [0, 0, 0]), good([0, 0, 3])]
        self.assertTrue(self.accepted(circle, [0, 0, 0, 1]))
        for rest in ([2, 3, 4], [4, 3, 2], [3, 2, 4], [2, 2, 2], [3, 3, 3], [1, 1, 1], [1025, 1024, 1023], [2, 4, 3],
                     [1023, 1025, 1024], [5, 4, 6], [0, 3, 2], [2, 0, 3], [1, 0, 0], [3, 2, 1], [2, 1, 3]):
            self.assertFalse(self.accepted(circle, rest + [1]), rest)
        for rest in ([2, 3], [3, 2], [2, 2], [1, 2], [2, 1], [1024, 1025], [0, 2]):
            self.assertFalse(self.accepted([story([2], [0]), ONE], rest), rest)
        for number in (1, 2, 3, 1025):
            self.assertFalse(self.accepted([story([2], [0]), action([], [])], [number, 0]))

    def test_all_of_a_good_end_that_is_told_0(self):
        self.assertFalse(self.accepted([story([2], [0]), ONE, good([0, 0, 1])], [0, 0]))
        self.assertTrue(self.accepted([story([2], [0]), ONE, good([0, 0, 1])], [2, 1]))

    def test_the_state_now_makes_no_difference(self):
        found = ask(*COUNTER, act(0), check(TABLE), act(1), check(TABLE), check(TABLE[::-1]))
        self.assertEqual((found[6], found[8], found[9]), ([0, 1], [0, 1], [0, 0]))

    def test_it_changes_nothing(self):
        found = ask(*COUNTER, act(0), check(TABLE), check([0] * 8), check([]), RANKS, NOW, HINT, UNDO, UNDO, RANKS)
        self.assertEqual(found[6:], [[0, 1], [0, 0], [0, 0], [0] + TABLE, [0, 1, 0, 1], [0, 1, 3, 0], [0, 0, 0, 0], [-9],
                                     [0] + TABLE])


class NoOtherIsAccepted(unittest.TestCase):
    """Promise 3."""

    def test_of_all_tables_of_small_stories(self):
        met = set()
        for seed in range(60):
            sizes, calls = some_story(source(7000 + seed), 4)
            table = last(*calls, RANKS)[1:]
            met.add(tuple(table))
            tables = [list(numbers) for numbers in itertools.product(range(len(table) + 2), repeat=len(table))]
            found = []
            for k in range(0, len(tables), 180):
                answers = ask(*calls, *[check(numbers) for numbers in tables[k:k + 180]])[len(calls):]
                found += [numbers for numbers, answer in zip(tables[k:], answers) if answer == [0, 1]]
            self.assertEqual(found, [table])
        self.assertGreater(len(met), 10)

    def test_nor_with_a_number_or_two_changed(self):
        for seed in range(100):
            rng = source(8000 + seed)
            sizes, calls = some_story(rng)
            table = last(*calls, RANKS)[1:]
            asked = [table]
            for k in range(100):
                changed = list(table)
                for n in rng.sample(range(len(table)), rng.choice((1, 1, 2))):
                    changed[n] = rng.choice((0, 1, 2, 3, table[n] + 1, max(0, table[n] - 1), rng.randrange(1026)))
                asked.append(changed)
            found = ask(*calls, *[check(numbers) for numbers in asked])[len(calls):]
            self.assertEqual(found, [[0, 1 if numbers == table else 0] for numbers in asked])

    def test_nor_with_all_numbers_moved(self):
        for seed in range(100):
            sizes, calls = some_story(source(9000 + seed))
            table = last(*calls, RANKS)[1:]
            for change in (lambda r: r + 1, lambda r: r + 1 if r else 0, lambda r: r + 1 if r > 1 else r, lambda r: 0,
                           lambda r: r if r < 2 else 0, lambda r: r if r < 3 else 0, lambda r: r or 2,
                           lambda r: r or max(table) + 1, lambda r: min(r, 2), lambda r: 2 * r):
                changed = [change(r) for r in table]
                self.assertEqual(last(*calls, check(changed)), [0, 1 if changed == table else 0], changed)


if __name__ == "__main__":
    unittest.main()
