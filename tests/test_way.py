"""Calls 11, 12, 15 and 19: way, rank, ranks and ways."""

import unittest

from tests.helper import (CAN, FAR, HINT, NOW, RANKS, RESTART, UNDO, WAY, WAYS, act, action, ask, bad, check, good, last,
                          long_way, rank, story, turn)

ONE, TWO, THREE = action([], [0, 1, 1]), action([], [0, 1, 2]), action([], [0, 1, 3])

# What is told behind what, with the way and the table that are due then.
GROWING = (
    (good([0, 0, 6]), [-10], [0, 0, 0, 0, 0, 0, 1, 0]),
    (ONE, [0] + [0] * 6, [7, 6, 5, 4, 3, 2, 1, 8]),
    (TWO, [0, 1, 1, 1], [4, 4, 3, 3, 2, 2, 1, 5]),
    (turn([0, 0, 2], [0, 0, 5]), [0, 1, 0], [3, 3, 3, 3, 2, 2, 1, 4]),
    (good([0, 0, 1]), [0, 0], [2, 1, 3, 3, 2, 2, 1, 2]),
    (bad([0, 0, 1]), [0, 1, 0], [3, 0, 3, 3, 2, 2, 1, 4]),
    (bad([0, 0, 6]), [-10], [0] * 8),
)

# Where it's lost: no actions and no ends, no ends, no actions, no way, at a bad end, at a good one that's a bad one too.
LOST = (
    [story([2], [0])], [story([2], [0]), ONE], [story([2], [0]), good([0, 0, 1])],
    [story([3], [0]), action([], [0, 0, 2]), good([0, 0, 1])],
    [story([3], [0]), ONE, good([0, 0, 2]), bad([0, 0, 1])],
    [story([2], [0]), ONE, good([0, 0, 1]), bad([0, 0, 0])],
    [story([2], [0]), ONE, good([0, 0, 0]), bad([0, 0, 0])],
)


class Way(unittest.TestCase):
    def test_no_story(self):
        self.assertEqual(ask(WAY), [[-2]])

    def test_lost(self):
        for calls in LOST:
            self.assertEqual(last(*calls, WAY), [-10], calls)

    def test_at_a_good_end(self):
        self.assertEqual(last(story([2], [1]), good([0, 0, 1]), WAY), [0])
        self.assertEqual(last(story([2], [1]), ONE, good([]), WAY), [0])
        self.assertEqual(ask(story([2], [0]), ONE, good([0, 0, 1]), WAY, act(0), WAY)[3:], [[0, 0], [0, 1, 1, 1], [0]])

    def test_the_actions_of_the_hints(self):
        self.assertEqual(last(story([8], [0]), ONE, THREE, good([0, 0, 6]), WAY), [0, 1, 1])
        self.assertEqual(last(story([8], [0]), ONE, THREE, good([0, 0, 7]), WAY), [0, 0, 1, 1])
        self.assertEqual(last(story([8], [0]), THREE, ONE, good([0, 0, 7]), WAY), [0, 0, 0, 1])
        self.assertEqual(last(story([8], [0]), THREE, THREE, ONE, ONE, good([0, 0, 7]), WAY), [0, 0, 0, 2])

    def test_it_begins_at_the_state_now(self):
        found = ask(story([8], [0]), ONE, THREE, good([0, 0, 7]), act(0), WAY, act(0), WAY, UNDO, UNDO, WAY, act(1), WAY)
        self.assertEqual((found[5], found[7], found[10], found[12]), ([0, 1, 1], [0, 0, 0, 1], [0, 0, 1, 1], [0, 0, 1]))

    def test_turn_rules_count(self):
        calls = [story([8], [0]), ONE, TWO, good([0, 0, 6])]
        self.assertEqual(last(*calls, turn([], [0, 1, 1]), WAY), [0, 1, 1])

    def test_as_long_as_it_may_be(self):
        found = ask(*long_way(), WAY, act(0), WAY)
        self.assertEqual(found[6], [0] + [0] * 1023)
        self.assertEqual(found[8], [0] + [0] * 1022)

    def test_eight_variables(self):
        calls = [story([2] * 8, [0] * 8)] + [action([v, 0, 0], [v, 0, 1]) for v in range(8)]
        calls.append(good([number for v in range(8) for number in (v, 0, 1)]))
        self.assertEqual(last(*calls, WAY), [0] + list(range(8)))

    def test_the_last_of_16_actions(self):
        calls = [story([8], [0])] + [action([0, 0, 7], []) for k in range(15)] + [ONE, good([0, 0, 3])]
        self.assertEqual(last(*calls, WAY), [0, 15, 15, 15])

    def test_asked_again_behind_what_is_new(self):
        found = ask(story([8], [0]), WAY, *[call for told, way, table in GROWING for call in (told, WAY)])
        self.assertEqual(found[1::2], [[-10]] + [way for told, way, table in GROWING])

    def test_it_changes_nothing(self):
        found = ask(story([8], [0]), ONE, good([0, 0, 6]), act(0), WAY, NOW, CAN, HINT, UNDO, UNDO, RESTART, WAY)
        self.assertEqual(found[4:], [[0] + [0] * 5, [0, 1, 0, 1], [0, 0], [0, 1, 5, 0], [0, 0, 0, 0], [-9],
                                     [0, 0, 0, 0], [0] + [0] * 6])


class RankAndRanks(unittest.TestCase):
    def test_no_story(self):
        self.assertEqual(ask(RANKS), [[-2]])
        self.assertEqual(ask(rank(0), rank(1023)), [[-2], [-2]])

    def test_out_of_range(self):
        for n in (-1, 1024, 1025, FAR, -FAR):
            self.assertEqual(last(rank(n)), [-1])
            self.assertEqual(last(story([8], [0]), rank(n)), [-1])
            self.assertEqual(last(*long_way(), rank(n)), [-1])

    def test_no_such_state(self):
        for n in (8, 9, 1023):
            self.assertEqual(last(story([8], [0]), good([]), rank(n)), [-4])
        self.assertEqual(last(story([2, 3], [0, 0]), good([]), rank(6)), [-4])
        self.assertEqual(last(story([2] * 8, [0] * 8), rank(256)), [-4])

    def test_the_first_and_the_last_state(self):
        calls = [story([8], [3]), ONE, good([0, 0, 6])]
        self.assertEqual(ask(*calls, rank(0), rank(7), rank(8))[3:], [[0, 7], [0, 8], [-4]])
        self.assertEqual(ask(*long_way(), rank(0), rank(1), rank(1023), rank(1024))[6:], [[0, 1], [0, 1024], [0, 2], [-1]])

    def test_each_state_in_the_table(self):
        calls = [story([8], [0]), ONE, TWO, good([0, 0, 6]), bad([0, 0, 5])]
        table = [4, 4, 3, 3, 2, 0, 1, 5]
        self.assertEqual(last(*calls, RANKS), [0] + table)
        self.assertEqual(ask(*calls, *[rank(n) for n in range(8)])[5:], [[0, r] for r in table])

    def test_without_actions_or_ends(self):
        self.assertEqual(last(story([3], [0]), RANKS), [0, 0, 0, 0])
        self.assertEqual(last(story([3], [0]), ONE, RANKS), [0, 0, 0, 0])
        self.assertEqual(last(story([3], [0]), good([0, 0, 1]), RANKS), [0, 0, 1, 0])
        self.assertEqual(last(story([3], [0]), good([]), RANKS), [0, 1, 1, 1])
        self.assertEqual(last(story([3], [0]), ONE, good([]), bad([0, 0, 2]), RANKS), [0, 1, 1, 0])

    def test_the_state_now_makes_no_difference(self):
        calls = [story([8], [0]), ONE, good([0, 0, 6])]
        found = ask(*calls, RANKS, act(0), act(0), RANKS, rank(0))
        self.assertEqual((found[3], found[7]), (found[6], [0, 7]))

    def test_states_that_cannot_be_come_to_have_their_steps_too(self):
        self.assertEqual(last(story([4], [0]), action([0, 0, 2], [0, 0, 3]), good([0, 0, 3]), RANKS), [0, 0, 0, 2, 1])

    def test_1024_states(self):
        self.assertEqual(last(*long_way(), RANKS), [0, 1] + list(range(1024, 1, -1)))

    def test_asked_again_behind_what_is_new(self):
        found = ask(story([8], [0]), RANKS, *[call for told, way, table in GROWING for call in (told, RANKS)])
        self.assertEqual(found[1::2], [[0] + [0] * 8] + [[0] + table for told, way, table in GROWING])
        found = ask(story([8], [0]), rank(7), *[call for told, way, table in GROWING for call in (told, rank(7))])
        self.assertEqual(found[1::2], [[0, 0]] + [[0, table[7]] for told, way, table in GROWING])

    def test_in_a_new_story(self):
        found = ask(story([8], [0]), ONE, good([0, 0, 6]), RANKS, story([3], [0]), RANKS, rank(3), rank(2))
        self.assertEqual(found[5:], [[0, 0, 0, 0], [-4], [0, 0]])

    def test_they_change_nothing(self):
        found = ask(story([8], [0]), ONE, good([0, 0, 6]), act(0), RANKS, rank(5), rank(8), rank(-1), NOW, HINT, UNDO, UNDO)
        self.assertEqual(found[8:], [[0, 1, 0, 1], [0, 1, 5, 0], [0, 0, 0, 0], [-9]])


class Ways(unittest.TestCase):
    def test_no_story(self):
        self.assertEqual(ask(WAYS), [[-2]])

    def test_lost(self):
        for calls in LOST:
            self.assertEqual(last(*calls, WAYS), [-10], calls)

    def test_at_a_good_end(self):
        self.assertEqual(last(story([2], [1]), good([0, 0, 1]), WAYS), [0, 1])
        self.assertEqual(last(story([2], [1]), ONE, ONE, good([]), WAYS), [0, 1])

    def test_one_row_alone(self):
        self.assertEqual(last(story([8], [0]), ONE, good([0, 0, 6]), WAYS), [0, 1])
        self.assertEqual(last(*long_way(), WAYS), [0, 1])

    def test_several_actions_that_lead_to_one_state(self):
        for k in range(1, 17):
            self.assertEqual(last(story([8], [0]), *[ONE for n in range(k)], good([0, 0, 3]), WAYS), [0, k ** 3])

    def test_only_rows_as_short_as_the_steps(self):
        self.assertEqual(last(story([8], [0]), ONE, TWO, good([0, 0, 4]), WAYS), [0, 1])
        self.assertEqual(last(story([8], [0]), ONE, TWO, good([0, 0, 5]), WAYS), [0, 3])
        self.assertEqual(last(story([8], [0]), ONE, TWO, action([], []), good([0, 0, 5]), WAYS), [0, 3])

    def test_several_good_ends(self):
        self.assertEqual(last(story([8], [0]), ONE, TWO, good([0, 0, 4]), good([0, 0, 3]), WAYS), [0, 3])
        self.assertEqual(last(story([8], [0]), ONE, TWO, good([0, 0, 1]), good([0, 0, 2]), WAYS), [0, 2])
        self.assertEqual(last(story([8], [0]), ONE, TWO, good([0, 0, 2]), good([0, 0, 4]), WAYS), [0, 1])

    def test_bad_ends_on_the_way(self):
        self.assertEqual(last(story([8], [0]), ONE, TWO, good([0, 0, 5]), bad([0, 0, 2]), WAYS), [0, 1])

    def test_from_the_state_now(self):
        found = ask(story([8], [0]), ONE, ONE, good([0, 0, 3]), WAYS, act(0), WAYS, act(1), WAYS, act(0), WAYS)
        self.assertEqual(found[4::2], [[0, 8], [0, 4], [0, 2], [0, 1]])

    def counted(self, steps, actions):
        """State by state, each time by any of so many actions."""
        calls = [story([8, 8], [0, 0])] + [ONE for k in range(actions)] + [turn([0, 0, 0], [1, 1, 1])]
        return last(*calls, good([0, 0, steps % 8, 1, 0, steps // 8]), WAYS)

    def test_modulo_1000000007(self):
        self.assertEqual(self.counted(29, 2), [0, 536870912])
        self.assertEqual(self.counted(30, 2), [0, 73741817])
        self.assertEqual(self.counted(63, 16), [0, 16 ** 63 % 1000000007])

    def test_more_than_that_together_at_several_ends(self):
        both = [action([], [0, 1, 1, 2, 0, x]) for x in (0, 1)]
        calls = [story([8, 8, 2], [0, 0, 0]), *both, turn([0, 0, 0], [1, 1, 1]), good([0, 0, 6, 1, 0, 3]), WAYS]
        self.assertEqual(last(*calls), [0, 73741817])

    def test_the_most_rows_there_may_be(self):
        calls = long_way()
        self.assertEqual(last(*calls, *[calls[1] for k in range(15)], WAYS), [0, pow(16, 1023, 1000000007)])

    def test_asked_again_behind_what_is_new(self):
        found = ask(story([8], [0]), WAYS, *[call for told, way, table in GROWING for call in (told, WAYS)])
        self.assertEqual(found[1::2], [[-10], [-10], [0, 1], [0, 1], [0, 1], [0, 1], [0, 1], [-10]])
        found = ask(story([8], [0]), good([0, 0, 4]), ONE, WAYS, ONE, WAYS, TWO, WAYS, bad([0, 0, 2]), WAYS,
                    turn([0, 0, 3], [0, 0, 4]), WAYS, good([0, 0, 1]), WAYS)
        self.assertEqual(found[3::2], [[0, 1], [0, 16], [0, 1], [0, 4], [0, 2], [0, 2]])

    def test_it_changes_nothing(self):
        found = ask(story([8], [0]), ONE, good([0, 0, 6]), act(0), WAYS, WAYS, NOW, HINT, UNDO, UNDO)
        self.assertEqual(found[4:], [[0, 1], [0, 1], [0, 1, 0, 1], [0, 1, 5, 0], [0, 0, 0, 0], [-9]])


class TheTableIsAccepted(unittest.TestCase):
    def test_at_its_time_and_not_before_or_behind(self):
        calls = [story([8], [0])]
        for told, way, table in GROWING:
            self.assertEqual(last(*calls, check(table)), [0, 0], table)
            calls.append(told)
            self.assertEqual(last(*calls, RANKS, check(table)), [0, 1], table)


if __name__ == "__main__":
    unittest.main()
