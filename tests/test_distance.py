"""Calls 17 and 18: distance and must."""

import unittest

from tests.helper import (CAN, FAR, HINT, NOW, RESTART, UNDO, act, action, ask, bad, distance, good, last, long_way, must,
                          story, turn)

ONE, TWO = action([], [0, 1, 1]), action([], [0, 1, 2])
COUNTER = [story([8], [0]), ONE, TWO, good([0, 0, 6]), bad([0, 0, 3])]


class Distance(unittest.TestCase):
    def told(self, calls, pairs):
        return [answer[1:] for answer in ask(*calls, *[distance(n, m) for n, m in pairs])[len(calls):]]

    def test_no_story(self):
        self.assertEqual(ask(distance(0, 0), distance(1023, 1023)), [[-2], [-2]])

    def test_out_of_range(self):
        for n in (-1, 1024, 1025, FAR, -FAR):
            for m in (0, 7, 8, 1023, n):
                for calls in ([], COUNTER, long_way()):
                    self.assertEqual(last(*calls, distance(n, m)), [-1])
                    self.assertEqual(last(*calls, distance(m, n)), [-1])

    def test_no_such_state(self):
        for n in (8, 9, 1023):
            self.assertEqual(last(*COUNTER, distance(n, 0)), [-4])
            self.assertEqual(last(*COUNTER, distance(0, n)), [-4])
            self.assertEqual(last(*COUNTER, distance(n, n)), [-4])

    def test_to_itself(self):
        for calls in (COUNTER, [story([8], [3])]):
            self.assertEqual(self.told(calls, [(n, n) for n in range(8)]), [[1]] * 8)

    def test_to_itself_is_none_though_an_action_stays(self):
        self.assertEqual(last(story([2], [0]), action([], []), distance(0, 0)), [0, 1])

    def test_from_an_end(self):
        self.assertEqual(self.told(COUNTER, [(6, 7), (6, 0), (3, 4), (3, 5), (6, 6), (3, 3)]), [[0]] * 4 + [[1]] * 2)

    def test_the_least_number_of_actions(self):
        self.assertEqual(self.told(COUNTER, [(0, m) for m in range(8)]), [[1], [2], [2], [3], [3], [4], [4], [5]])
        self.assertEqual(self.told(COUNTER, [(4, m) for m in range(8)]), [[4], [4], [5], [5], [1], [2], [2], [3]])

    def test_to_a_state_that_cannot_be_come_to(self):
        self.assertEqual(self.told([story([8], [0]), TWO], [(0, 1), (1, 0), (0, 6), (6, 0), (1, 7)]), [[0], [0], [4], [2], [4]])
        self.assertEqual(self.told([story([8], [0])], [(0, 1), (7, 0)]), [[0], [0]])

    def test_one_way_is_not_the_other(self):
        self.assertEqual(self.told([story([8], [0]), ONE], [(2, 5), (5, 2)]), [[4], [6]])

    def test_the_first_and_the_last_state_and_one_behind_it(self):
        calls = [story([2, 3], [0, 0]), action([], [0, 1, 1]), action([], [1, 1, 1])]
        self.assertEqual(ask(*calls, distance(0, 5), distance(5, 0), distance(5, 5), distance(5, 6), distance(6, 5))[3:],
                         [[0, 4], [0, 3], [0, 1], [-4], [-4]])

    def test_1024_states(self):
        circle = long_way()[:-1]
        self.assertEqual(self.told(circle, [(1, 0), (0, 1023), (5, 4), (1023, 0), (1023, 1022)]),
                         [[1024], [1024], [1024], [2], [1024]])
        self.assertEqual(self.told(long_way(), [(1, 0), (0, 1023), (5, 4), (1023, 0)]), [[1024], [0], [0], [2]])
        self.assertEqual(ask(*circle, distance(1023, 1024), distance(1024, 1023))[5:], [[-1], [-1]])

    def test_eight_variables(self):
        calls = [story([2] * 8, [0] * 8)] + [action([v, 0, 0], [v, 0, 1]) for v in range(8)]
        self.assertEqual(self.told(calls, [(0, 255), (255, 0), (128, 255), (256 - 129, 255)]), [[9], [0], [8], [2]])

    def test_the_state_now_makes_no_difference(self):
        found = ask(*COUNTER, distance(0, 5), act(0), act(0), distance(0, 5), act(0), distance(0, 5))
        self.assertEqual((found[5], found[8], found[10]), ([0, 4], [0, 4], [0, 4]))

    def test_asked_again_behind_what_is_new(self):
        new = (ONE, TWO, turn([0, 0, 2], [0, 0, 5]), bad([0, 0, 5]), good([0, 0, 4]))
        found = ask(story([8], [0]), distance(1, 6), *[call for told in new for call in (told, distance(1, 6))])
        self.assertEqual(found[1::2], [[0, 0], [0, 6], [0, 4], [0, 3], [0, 4], [0, 0]])

    def test_it_changes_nothing(self):
        found = ask(*COUNTER, act(0), distance(0, 5), distance(0, 8), distance(0, -1), NOW, CAN, HINT, UNDO, UNDO)
        self.assertEqual(found[6:], [[0, 4], [-4], [-1], [0, 1, 0, 1], [0, 0, 1], [0, 1, 3, 0], [0, 0, 0, 0], [-9]])


# A door that only the key opens; the lamp can be left where it is.
DOOR, KEY, LAMP = 0, 1, 2
HOUSE = [story([3, 2, 2], [0, 0, 0]), action([], [KEY, 0, 1]), action([], [LAMP, 0, 1]),
         action([KEY, 0, 1, DOOR, 0, 0], [DOOR, 0, 1]), action([DOOR, 0, 1], [DOOR, 0, 2]), good([DOOR, 0, 2])]


class Must(unittest.TestCase):
    def told(self, calls, pairs):
        return [answer[1:] for answer in ask(*calls, *[must(v, x) for v, x in pairs])[len(calls):]]

    def test_out_of_range(self):
        for wrong in (-1, 8, 9, FAR, -FAR):
            for calls in ([], HOUSE, HOUSE + [bad([])]):
                for right in (0, 7):
                    self.assertEqual(last(*calls, must(wrong, right)), [-1])
                    self.assertEqual(last(*calls, must(right, wrong)), [-1])
                self.assertEqual(last(*calls, must(wrong, wrong)), [-1])

    def test_no_story(self):
        self.assertEqual(ask(must(0, 0), must(7, 7)), [[-2], [-2]])

    def test_no_such_variable_or_value(self):
        for calls in (HOUSE, HOUSE + [bad([])]):
            for v, x in ((3, 0), (7, 0), (7, 7), (DOOR, 3), (DOOR, 7), (KEY, 2), (LAMP, 2), (LAMP, 7)):
                self.assertEqual(last(*calls, must(v, x)), [-8])
        self.assertEqual(ask(story([8], [0]), good([]), must(0, 7), must(1, 0))[2:], [[0, 0], [-8]])

    def test_lost(self):
        for calls in ([story([2, 2], [0, 0])], [story([2, 2], [0, 0]), ONE], [story([2, 2], [0, 0]), good([0, 0, 1])],
                      [story([2, 2], [0, 0]), good([]), bad([])], HOUSE + [bad([KEY, 0, 1])]):
            for v, x in ((0, 0), (0, 1), (1, 1)):
                self.assertEqual(last(*calls, must(v, x)), [-10])
        found = ask(*HOUSE, bad([LAMP, 0, 1]), must(KEY, 1), act(1), must(KEY, 1), must(LAMP, 1), must(LAMP, 2), must(8, 0))
        self.assertEqual(found[7:], [[0, 1], [0, 6, 2, 0, 0, 1], [-10], [-10], [-8], [-1]])

    def test_what_must_happen_on_every_way(self):
        self.assertEqual(self.told(HOUSE, [(KEY, 1), (DOOR, 1), (LAMP, 1)]), [[1], [1], [0]])

    def test_the_state_now_has_the_value(self):
        self.assertEqual(self.told(HOUSE, [(DOOR, 0), (KEY, 0), (LAMP, 0)]), [[1], [1], [1]])
        found = ask(*HOUSE, act(0), must(KEY, 0), must(KEY, 1), act(1), must(LAMP, 0), must(LAMP, 1), RESTART, must(KEY, 0))
        self.assertEqual(found[7:9] + found[10:12] + found[13:], [[0, 0], [0, 1], [0, 0], [0, 1], [0, 1]])

    def test_only_the_end_has_the_value(self):
        self.assertEqual(self.told(HOUSE, [(DOOR, 2)]), [[1]])
        calls = [story([2, 2], [0, 0]), ONE, turn([0, 0, 1], [1, 0, 1]), good([0, 0, 1])]
        self.assertEqual(self.told(calls, [(1, 1), (0, 1)]), [[1], [1]])

    def test_one_of_several_ends_has_not_the_value(self):
        calls = [story([8], [0]), ONE, TWO, good([0, 0, 1]), good([0, 0, 2])]
        self.assertEqual(self.told(calls, [(0, 1), (0, 2), (0, 0), (0, 3)]), [[0], [0], [1], [0]])

    def test_one_way_goes_round_it(self):
        calls = [story([8], [0]), ONE, TWO, good([0, 0, 4])]
        self.assertEqual(self.told(calls, [(0, x) for x in range(8)]), [[1], [0], [0], [0], [1], [0], [0], [0]])
        self.assertEqual(self.told(calls[:2] + calls[3:], [(0, x) for x in range(8)]), [[1]] * 5 + [[0]] * 3)

    def test_a_longer_way_goes_round_it(self):
        calls = [story([8], [0]), action([0, 0, 0], [0, 0, 2]), action([0, 0, 2], [0, 0, 4]), good([0, 0, 4])]
        self.assertEqual(self.told(calls, [(0, 2), (0, 5)]), [[1], [0]])
        round_it = [action([0, 0, 0], [0, 0, 5]), action([0, 0, 5], [0, 0, 6]), action([0, 0, 6], [0, 0, 4])]
        self.assertEqual(self.told(calls + round_it, [(0, 2), (0, 5), (0, 6)]), [[0]] * 3)
        self.assertEqual(self.told(calls + round_it[:2], [(0, 2), (0, 5), (0, 6)]), [[1], [0], [0]])

    def test_a_way_through_a_bad_end_or_behind_a_good_one_is_none(self):
        calls = [story([8], [0]), ONE, TWO, good([0, 0, 4])]
        self.assertEqual(self.told(calls + [bad([0, 0, 1])], [(0, 2), (0, 3)]), [[1], [0]])
        self.assertEqual(self.told(calls + [good([0, 0, 1]), bad([0, 0, 2])], [(0, 1), (0, 4)]), [[1], [0]])

    def test_values_on_the_way_within_an_action_are_not_looked_at(self):
        calls = [story([8], [0]), action([], [0, 0, 3, 0, 0, 4]), turn([0, 0, 4], [0, 0, 5]), good([0, 0, 5])]
        self.assertEqual(self.told(calls, [(0, 3), (0, 4), (0, 5), (0, 0)]), [[0], [0], [1], [1]])

    def test_at_a_good_end(self):
        calls = [story([3, 2], [2, 0]), ONE, action([], [1, 0, 1]), good([0, 0, 2])]
        self.assertEqual(self.told(calls, [(0, 2), (0, 1), (0, 0), (1, 0), (1, 1)]), [[1], [0], [0], [1], [0]])

    def test_the_eighth_variable(self):
        calls = [story([2] * 8, [0] * 8), action([], [7, 0, 1]), action([7, 0, 1], [0, 0, 1]), good([0, 0, 1])]
        self.assertEqual(self.told(calls, [(7, 1), (7, 0), (6, 1), (0, 1)]), [[1], [1], [0], [1]])
        self.assertEqual(last(*calls, must(7, 2)), [-8])

    def test_1024_states(self):
        self.assertEqual(self.told(long_way(), [(v, x) for v in (0, 1, 2) for x in range(8)]), [[1]] * 24)
        leap = action([2, 0, 3, 0, 1, 0], [2, 0, 5])
        self.assertEqual(self.told(long_way() + [leap], [(2, 3), (2, 4), (2, 5)]), [[1], [0], [1]])

    def test_asked_again_behind_what_is_new(self):
        new = (action([0, 0, 0], [0, 0, 7]), action([0, 0, 7], [0, 0, 6]), bad([0, 0, 7]), good([0, 0, 1]),
               turn([0, 0, 1], [0, 0, 2]), bad([0, 0, 0]))
        found = ask(story([8], [0]), ONE, good([0, 0, 6]), must(0, 2), *[call for told in new for call in (told, must(0, 2))])
        self.assertEqual(found[3::2], [[0, 1], [0, 1], [0, 0], [0, 1], [0, 0], [0, 1], [-10]])

    def test_it_changes_nothing(self):
        found = ask(*HOUSE, act(0), must(KEY, 1), must(LAMP, 1), must(DOOR, 3), must(8, 8), NOW, CAN, HINT, UNDO, UNDO)
        self.assertEqual(found[7:], [[0, 1], [0, 0], [-8], [-1], [0, 3, 0, 0, 1, 0], [0, 0, 1, 2], [0, 1, 2, 2],
                                     [0, 0, 0, 0, 0, 0], [-9]])


if __name__ == "__main__":
    unittest.main()
