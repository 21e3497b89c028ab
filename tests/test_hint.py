"""Call 10: hint."""

import unittest

from tests.helper import (HINT, NOW, RESTART, UNDO, act, action, ask, bad, good, last, long_way, story, turn)


class Hint(unittest.TestCase):
    def test_no_story(self):
        self.assertEqual(ask(HINT), [[-2]])

    def test_at_a_good_end(self):
        self.assertEqual(last(story([2], [1]), good([0, 0, 1]), HINT), [0, 1, 0])
        self.assertEqual(last(story([2], [1]), action([], []), good([]), HINT), [0, 1, 0])

    def test_at_a_bad_end(self):
        self.assertEqual(last(story([2], [0]), action([], [0, 0, 1]), good([0, 0, 1]), bad([0, 0, 0]), HINT), [0, 0])

    def test_at_what_is_a_good_and_a_bad_end_at_once(self):
        self.assertEqual(last(story([2], [0]), action([], [0, 0, 1]), good([]), bad([0, 0, 0]), HINT), [0, 0])

    def test_at_a_lost_state_that_goes_on(self):
        self.assertEqual(last(story([2], [0]), HINT), [0, 0])
        self.assertEqual(last(story([2], [0]), action([], []), HINT), [0, 0])
        self.assertEqual(last(story([2], [0]), good([0, 0, 1]), HINT), [0, 0])
        self.assertEqual(last(story([3], [0]), action([], [0, 0, 2]), good([0, 0, 1]), HINT), [0, 0])
        self.assertEqual(last(story([3], [0]), action([0, 0, 1], [0, 0, 2]), good([0, 0, 2]), HINT), [0, 0])

    def test_the_only_way_leads_through_a_bad_end(self):
        self.assertEqual(last(story([3], [0]), action([], [0, 1, 1]), good([0, 0, 2]), HINT), [0, 1, 2, 0])
        self.assertEqual(last(story([3], [0]), action([], [0, 1, 1]), good([0, 0, 2]), bad([0, 0, 1]), HINT), [0, 0])

    def test_the_good_end_is_a_bad_one_too(self):
        self.assertEqual(last(story([3], [0]), action([], [0, 1, 1]), good([0, 0, 1]), bad([0, 0, 1]), HINT), [0, 0])

    def test_one_action_away(self):
        self.assertEqual(last(story([2], [0]), action([], [0, 0, 1]), good([0, 0, 1]), HINT), [0, 1, 1, 0])

    def test_of_several_that_lead_on_the_least(self):
        begun = [story([8], [0]), good([0, 0, 4])]
        stay, one, two = action([], []), action([], [0, 1, 1]), action([], [0, 1, 2])
        self.assertEqual(last(*begun, stay, two, two, one, HINT), [0, 1, 2, 1])
        self.assertEqual(last(*begun, one, stay, two, two, HINT), [0, 1, 2, 2])
        self.assertEqual(last(*begun, two, one, two, HINT), [0, 1, 2, 0])
        self.assertEqual(last(*begun, action([0, 1, 0], [0, 1, 2]), two, two, HINT), [0, 1, 2, 1])

    def test_the_least_action_may_be_the_first_step_of_a_longer_way(self):
        calls = [story([8], [0]), action([], [0, 1, 1]), action([], [0, 1, 3]), good([0, 0, 6])]
        self.assertEqual(last(*calls, HINT), [0, 1, 2, 1])
        self.assertEqual(ask(*calls, act(0), HINT)[4:], [[0, 1, 0, 1], [0, 1, 3, 0]])

    def test_the_16th_action(self):
        calls = [story([2], [0])] + [action([], []) for k in range(15)] + [action([], [0, 0, 1]), good([0, 0, 1])]
        self.assertEqual(last(*calls, HINT), [0, 1, 1, 15])

    def test_turn_rules_count(self):
        calls = [story([8], [0]), action([], [0, 1, 1]), good([0, 0, 6])]
        self.assertEqual(last(*calls, HINT), [0, 1, 6, 0])
        self.assertEqual(last(*calls, turn([], [0, 1, 1]), HINT), [0, 1, 3, 0])
        self.assertEqual(last(*calls, turn([0, 0, 3], [0, 0, 0]), HINT), [0, 0])

    def test_a_long_way(self):
        calls = long_way()
        self.assertEqual(last(*calls, HINT), [0, 1, 1023, 0])
        self.assertEqual(ask(*calls, act(0), HINT, UNDO, HINT)[6:],
                         [[0, 2, 0, 2, 0, 0, 0], [0, 1, 1022, 0], [0, 1, 0, 1, 0, 0, 0], [0, 1, 1023, 0]])

    def test_all_that_is_told_behind_a_hint_counts_in_the_next(self):
        found = ask(story([8], [0]), HINT, good([0, 0, 6]), HINT, action([], [0, 1, 1]), HINT, action([], [0, 1, 2]), HINT,
                    turn([0, 0, 2], [0, 0, 5]), HINT, good([0, 0, 1]), HINT, bad([0, 0, 1]), HINT, bad([0, 0, 6]), HINT)
        self.assertEqual(found[1::2], [[0, 0], [0, 0], [0, 1, 6, 0], [0, 1, 3, 1], [0, 1, 2, 1], [0, 1, 1, 0],
                                       [0, 1, 2, 1], [0, 0]])

    def test_refused_rules_do_not_count_in_the_next(self):
        begun = [story([8], [0]), action([], [0, 1, 1]), good([0, 0, 6]), HINT]
        found = ask(*begun, action([], [0, 1, 9]), HINT, turn([], [0, 9, 1]), HINT, good([0, 0, 8]), HINT, bad([1, 0, 0]),
                    HINT, story([9], [0]), HINT)
        self.assertEqual(found[3:], [[0, 1, 6, 0], [-8], [0, 1, 6, 0], [-8], [0, 1, 6, 0], [-8], [0, 1, 6, 0], [-8],
                                     [0, 1, 6, 0], [-1], [0, 1, 6, 0]])

    def test_it_changes_nothing(self):
        found = ask(story([8], [0]), action([], [0, 1, 1]), good([0, 0, 6]), act(0), HINT, NOW, UNDO, UNDO, HINT, RESTART)
        self.assertEqual(found[4:], [[0, 1, 5, 0], [0, 1, 0, 1], [0, 0, 0, 0], [-9], [0, 1, 6, 0], [0, 0, 0, 0]])


if __name__ == "__main__":
    unittest.main()
