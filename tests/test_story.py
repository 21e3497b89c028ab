"""Call 0: story, and the number of a state."""

import unittest

from tests.helper import (CAN, FAR, HINT, NOW, UNDO, act, action, ask, bad, good, last, numbered, story, turn)


class StoryIsTold(unittest.TestCase):
    def test_how_many_states(self):
        self.assertEqual(ask(story([3, 2, 4], [0, 0, 0])), [[0, 24]])

    def test_one_variable_of_each_size(self):
        for size in range(2, 9):
            self.assertEqual(ask(story([size], [size - 1]), NOW), [[0, size], [0, size - 1, 0, size - 1]])

    def test_eight_variables(self):
        self.assertEqual(ask(story([2] * 8, [1] * 8), NOW), [[0, 256], [0, 255, 0] + [1] * 8])

    def test_products_of_1024(self):
        for sizes in ([8, 8, 8, 2], [4, 4, 4, 4, 4], [2, 2, 2, 2, 2, 2, 2, 8], [2, 2, 2, 2, 2, 2, 4, 4]):
            top = [size - 1 for size in sizes]
            self.assertEqual(ask(story(sizes, top), NOW), [[0, 1024], [0, 1023, 0] + top])

    def test_products_of_more(self):
        for sizes in ([3, 7, 7, 7], [5, 5, 6, 7], [8, 8, 8, 3], [3] * 7, [2, 2, 2, 2, 2, 2, 3, 6], [8] * 8):
            self.assertEqual(ask(story(sizes, [0] * len(sizes)), NOW), [[-1], [-2]])

    def test_variable_0_counts_least_in_the_number(self):
        self.assertEqual(last(story([3, 2, 4], [2, 1, 3]), NOW), [0, 23, 0, 2, 1, 3])
        self.assertEqual(last(story([3, 2, 4], [2, 0, 0]), NOW), [0, 2, 0, 2, 0, 0])
        self.assertEqual(last(story([3, 2, 4], [0, 1, 0]), NOW), [0, 3, 0, 0, 1, 0])
        self.assertEqual(last(story([3, 2, 4], [0, 0, 1]), NOW), [0, 6, 0, 0, 0, 1])

    def test_each_state_has_its_own_number(self):
        sizes = [2, 5, 3]
        seen = []
        for z in range(3):
            for y in range(5):
                for x in range(2):
                    answer = last(story(sizes, [x, y, z]), NOW)
                    self.assertEqual(answer, [0, numbered(sizes, [x, y, z]), 0, x, y, z])
                    seen.append(answer[1])
        self.assertEqual(seen, list(range(30)))

    def test_all_is_new(self):
        before = [story([2, 2], [0, 1]), action([], [0, 1, 1]), turn([], [1, 0, 0]), good([0, 0, 1]), bad([1, 0, 1]),
                  act(0)]
        found = ask(story([3], [1]), action([], [0, 1, 1]), turn([], [0, 1, 1]), good([]), bad([]),
                    story([3], [2]), NOW, CAN, HINT, UNDO, act(0), action([], []), act(0), UNDO, UNDO,
                    turn([], []), good([0, 0, 2]), bad([0, 0, 2]))
        self.assertEqual(found[5:], [[0, 3], [0, 2, 0, 2], [0], [0, 0], [-9], [-3], [0, 0], [0, 2, 0, 2],
                                     [0, 2, 0, 2], [-9], [0, 0], [0, 0], [0, 0]])
        found = ask(*before, story([2, 2], [1, 1]), UNDO, NOW, HINT, CAN)
        self.assertEqual(found[6:], [[0, 4], [-9], [0, 3, 0, 1, 1], [0, 0], [0]])

    def test_all_is_new_behind_acts(self):
        found = ask(story([5], [0]), action([], [0, 1, 1]), act(0), act(0), story([5], [0]), UNDO, NOW)
        self.assertEqual(found[3:], [[0, 2, 0, 2], [0, 5], [-9], [0, 0, 0, 0]])


class StoryIsRefused(unittest.TestCase):
    wrong = (
        ([], []), ([], [0]), ([2] * 9, [0] * 9), ([2] * 1030, [0] * 1030),
        ([1], [0]), ([9], [0]), ([0], [0]), ([-2], [0]), ([FAR], [0]), ([-FAR], [0]), ([2, 1], [0, 0]),
        ([2, 9], [0, 0]), ([-2, -2], [0, 0]), ([FAR] * 1030, [FAR] * 1030),
        ([2], []), ([2], [0, 0]), ([2, 2], [0]), ([2], [0] * 1030), ([2] * 1030, [0]), ([2, 2], [0, 0, 0]),
        ([2], [2]), ([2], [-1]), ([8], [8]), ([3, 2], [2, 2]), ([2, 3], [2, 2]), ([2, 2], [0, -1]),
        ([2], [FAR]), ([2], [-FAR]), ([8, 8, 8, 3], [0] * 4), ([8] * 8, [0] * 8), ([5, 5, 5, 5, 2], [0] * 5),
        ([3, 7, 7, 7], [0] * 4), ([2, 2, 2, 2, 2, 2, 3, 6], [0] * 8),
    )

    def test_each_wrong_story(self):
        for sizes, values in self.wrong:
            self.assertEqual(ask(story(sizes, values)), [[-1]], (sizes, values))

    def test_still_no_story(self):
        for sizes, values in self.wrong:
            self.assertEqual(ask(story(sizes, values), NOW), [[-1], [-2]], (sizes, values))

    def test_the_story_before_stays(self):
        for sizes, values in self.wrong:
            found = ask(story([3, 2], [0, 1]), action([], [0, 1, 1]), good([0, 0, 2]), act(0),
                        story(sizes, values), NOW, CAN, HINT, UNDO, HINT)
            self.assertEqual(found[4:], [[-1], [0, 4, 0, 1, 1], [0, 0], [0, 1, 1, 0], [0, 3, 0, 0, 1], [0, 1, 2, 0]],
                             (sizes, values))


if __name__ == "__main__":
    unittest.main()
