"""Calls 13, 14 and 20: choice, survey and state."""

import unittest

from tests.helper import (CAN, FAR, HINT, NOW, RESTART, SURVEY, UNDO, act, action, ask, bad, choice, good, last, long_way,
                          state, story, turn)

# From 0 one stays, goes to 1 and back, to the good end 7, the bad end 6, to 2 (no way back) and to 3 (lost: only 6 is left).
STAY, TO_1, BACK, TO_GOOD, TO_BAD, TO_2, TO_3 = range(7)
RULES = [action([], []), action([0, 0, 0], [0, 0, 1]), action([0, 0, 1], [0, 0, 0]), action([0, 1, 3], [0, 0, 7]),
         action([], [0, 0, 6]), action([0, 0, 0], [0, 0, 2]), action([0, 0, 0], [0, 0, 3]), good([0, 0, 7]), bad([0, 0, 6])]
FORK = [story([8], [0])] + RULES


def at(n):
    return [story([8], [n])] + RULES


class Choice(unittest.TestCase):
    def test_it_leads_to_the_state_now(self):
        self.assertEqual(last(*FORK, choice(STAY)), [0, 0, 2, 2, 0, 1])
        self.assertEqual(last(*at(3), choice(STAY)), [0, 3, 0, 0, 0, 1])

    def test_it_leads_to_a_good_end(self):
        self.assertEqual(last(*FORK, choice(TO_GOOD)), [0, 7, 2, 1, 1, 0])

    def test_it_leads_to_a_bad_end(self):
        self.assertEqual(last(*FORK, choice(TO_BAD)), [0, 6, 2, 0, 2, 0])
        self.assertEqual(last(*at(3), choice(TO_BAD)), [0, 6, 0, 0, 2, 0])

    def test_it_leads_to_a_state_from_which_one_comes_back(self):
        self.assertEqual(last(*FORK, choice(TO_1)), [0, 1, 2, 2, 0, 1])
        self.assertEqual(last(*at(1), choice(BACK)), [0, 0, 2, 2, 0, 1])

    def test_it_leads_to_a_state_from_which_one_does_not(self):
        self.assertEqual(last(*FORK, choice(TO_2)), [0, 2, 2, 2, 0, 0])
        self.assertEqual(last(*FORK, choice(TO_3)), [0, 3, 2, 0, 0, 0])

    def test_back_by_many_actions(self):
        calls = [story([8], [2]), action([], [0, 1, 1])]
        self.assertEqual(last(*calls, choice(0)), [0, 3, 0, 0, 0, 1])
        self.assertEqual(last(*calls, good([0, 0, 1]), choice(0)), [0, 3, 8, 7, 0, 0])
        self.assertEqual(last(*calls, bad([0, 0, 1]), choice(0)), [0, 3, 0, 0, 0, 0])
        counting = long_way()
        self.assertEqual(last(*counting, choice(0)), [0, 2, 1024, 1023, 0, 0])
        self.assertEqual(last(*counting[:-1], choice(0)), [0, 2, 0, 0, 0, 1])

    def test_it_may_lead_further_away(self):
        calls = [story([8], [3]), action([], [0, 1, 1]), action([], [0, 1, 7]), good([0, 0, 5])]
        self.assertEqual(ask(*calls, choice(0), choice(1))[4:], [[0, 4, 3, 2, 0, 1], [0, 2, 3, 4, 0, 1]])

    def test_turn_rules_count(self):
        calls = [story([8, 2], [0, 0]), action([], [0, 1, 1]), turn([0, 0, 1], [1, 0, 1]), turn([1, 0, 1], [0, 1, 1])]
        self.assertEqual(last(*calls, good([0, 0, 2]), choice(0)), [0, 10, 2, 1, 1, 0])

    def test_asked_again_behind_what_is_new(self):
        new = (action([0, 0, 2], [0, 0, 0]), good([0, 0, 2]), bad([0, 0, 2]), turn([0, 0, 2], [0, 0, 0]))
        found = ask(*FORK, choice(TO_2), *[call for told in new for call in (told, choice(TO_2))])
        self.assertEqual(found[10::2], [[0, 2, 2, 2, 0, 0], [0, 2, 2, 2, 0, 1], [0, 2, 2, 1, 1, 0], [0, 2, 2, 0, 2, 0],
                                        [0, 0, 2, 2, 0, 1]])

    def test_out_of_range(self):
        for a in (-1, 16, 17, FAR, -FAR):
            self.assertEqual(last(choice(a)), [-1])
            self.assertEqual(last(*FORK, choice(a)), [-1])
            self.assertEqual(last(*at(7), choice(a)), [-1])

    def test_no_story(self):
        for a in (0, 15):
            self.assertEqual(last(choice(a)), [-2])

    def test_no_such_action(self):
        for a in (7, 15):
            for n in (0, 6, 7):
                self.assertEqual(last(*at(n), choice(a)), [-3])
        self.assertEqual(last(story([2], [0]), choice(0)), [-3])

    def test_at_an_end(self):
        for n in (6, 7):
            for a in (STAY, BACK, TO_GOOD):
                self.assertEqual(last(*at(n), choice(a)), [-5])

    def test_cannot_be_done_now(self):
        self.assertEqual(last(*FORK, choice(BACK)), [-6])
        self.assertEqual(last(*at(3), choice(TO_GOOD)), [-6])

    def test_the_16th_action(self):
        calls = [story([2], [0])] + [action([0, 0, 1], []) for k in range(15)] + [action([], [0, 1, 1])]
        self.assertEqual(ask(*calls, choice(14), choice(15), choice(16))[17:], [[-6], [0, 1, 0, 0, 0, 1], [-1]])

    def test_eight_variables(self):
        calls = [story([2] * 8, [0] * 8), action([], [7, 1, 1]), good([0, 0, 1])]
        self.assertEqual(last(*calls, choice(0)), [0, 128, 0, 0, 0, 1])

    def test_it_changes_nothing(self):
        asked = [choice(a) for a in (STAY, BACK, TO_GOOD, TO_BAD, TO_2, TO_3, 7, 16, -1)]
        found = ask(*FORK, act(TO_1), act(BACK), *asked, NOW, CAN, HINT, UNDO, UNDO, UNDO)
        self.assertEqual(found[-6:], [[0, 0, 0, 0], [0, 0, 1, 3, 4, 5, 6], [0, 1, 1, 3], [0, 1, 0, 1], [0, 0, 0, 0], [-9]])


class Survey(unittest.TestCase):
    def test_no_story(self):
        self.assertEqual(ask(SURVEY), [[-2]])

    def test_each_sort_is_counted(self):
        self.assertEqual(last(*FORK, SURVEY), [0, 6, 1, 1, 3, 1])
        self.assertEqual(last(*at(2), SURVEY), [0, 3, 1, 1, 1, 0])
        self.assertEqual(last(*at(3), SURVEY), [0, 2, 0, 1, 0, 1])

    def test_the_first_state_is_an_end(self):
        self.assertEqual(last(*at(7), SURVEY), [0, 1, 1, 0, 0, 0])
        self.assertEqual(last(*at(6), SURVEY), [0, 1, 0, 1, 0, 0])
        self.assertEqual(last(*FORK, bad([]), SURVEY), [0, 1, 0, 1, 0, 0])

    def test_without_actions_or_ends(self):
        self.assertEqual(last(story([8], [5]), SURVEY), [0, 1, 0, 0, 0, 1])
        self.assertEqual(last(story([8], [5]), action([], []), SURVEY), [0, 1, 0, 0, 0, 1])
        self.assertEqual(last(story([8], [5]), action([], [0, 1, 1]), SURVEY), [0, 8, 0, 0, 0, 8])
        self.assertEqual(last(story([8], [5]), good([0, 0, 5]), SURVEY), [0, 1, 1, 0, 0, 0])

    def test_only_states_at_some_distance(self):
        calls = [story([8], [5]), action([], [0, 1, 2]), good([0, 0, 2]), bad([0, 0, 4])]
        self.assertEqual(last(*calls, SURVEY), [0, 4, 0, 0, 0, 4])

    def test_of_the_first_values_and_not_of_the_state_now(self):
        found = ask(*FORK, act(TO_3), SURVEY, act(TO_BAD), SURVEY, UNDO, SURVEY, RESTART, SURVEY)
        self.assertEqual(found[11::2], [[0, 6, 1, 1, 3, 1]] * 4)
        self.assertEqual(found[12:15:2], [[0, 6, 2, 6], [0, 3, 0, 3]])

    def test_1024_states(self):
        self.assertEqual(last(*long_way(), SURVEY), [0, 1024, 1, 0, 1023, 0])
        self.assertEqual(last(*long_way(), bad([3, 0, 1]), SURVEY), [0, 512, 0, 1, 0, 511])

    def test_eight_variables(self):
        calls = [story([2] * 8, [0] * 8)] + [action([], [v, 0, 1]) for v in range(8)] + [good([7, 0, 1]), bad([0, 0, 1])]
        self.assertEqual(last(*calls, SURVEY), [0, 64 + 64 + 64, 64, 64, 64, 0])

    def test_asked_again_behind_what_is_new(self):
        found = ask(story([4], [0]), SURVEY, action([], [0, 1, 1]), SURVEY, good([0, 0, 3]), SURVEY, bad([0, 0, 2]), SURVEY,
                    turn([0, 0, 1], [0, 0, 3]), SURVEY, bad([0, 0, 0]), SURVEY)
        self.assertEqual(found[1::2], [[0, 1, 0, 0, 0, 1], [0, 4, 0, 0, 0, 4], [0, 4, 1, 0, 3, 0], [0, 3, 0, 1, 0, 2],
                                       [0, 2, 1, 0, 1, 0], [0, 1, 0, 1, 0, 0]])

    def test_it_changes_nothing(self):
        found = ask(*FORK, act(TO_1), SURVEY, SURVEY, NOW, CAN, HINT, UNDO, UNDO)
        self.assertEqual(found[11:], [[0, 6, 1, 1, 3, 1]] * 2 + [[0, 1, 0, 1], [0, 0, 2, 3, 4], [0, 1, 1, 3], [0, 0, 0, 0],
                                                                 [-9]])


class State(unittest.TestCase):
    def test_no_story(self):
        self.assertEqual(ask(state(0), state(1023)), [[-2], [-2]])

    def test_out_of_range(self):
        for n in (-1, 1024, 1025, FAR, -FAR):
            self.assertEqual(last(state(n)), [-1])
            self.assertEqual(last(*FORK, state(n)), [-1])
            self.assertEqual(last(*long_way(), state(n)), [-1])

    def test_no_such_state(self):
        for n in (8, 9, 1023):
            self.assertEqual(last(*FORK, state(n)), [-4])

    def test_the_first_and_the_last_state_and_one_behind_it(self):
        for sizes, top in (([3, 2], 5), ([2], 1), ([2] * 8, 255), ([8, 8, 8, 2], 1023), ([5, 5, 5, 8], 999)):
            found = ask(story(sizes, [1] * len(sizes)), state(0), state(top), state(top + 1))
            self.assertEqual(found[1:], [[0, 0, 0] + [0] * len(sizes), [0, top, 0] + [size - 1 for size in sizes],
                                         [-1 if top == 1023 else -4]])

    def test_each_state(self):
        calls = [story([3, 2], [1, 1]), good([0, 0, 2]), bad([1, 0, 1, 0, 1, 0])]
        self.assertEqual(ask(*calls, *[state(n) for n in range(7)])[3:],
                         [[0, 0, 0, 0, 0], [0, 1, 0, 1, 0], [0, 2, 1, 2, 0], [0, 3, 0, 0, 1], [0, 4, 2, 1, 1],
                          [0, 5, 2, 2, 1], [-4]])

    def test_asked_again_behind_what_is_new(self):
        found = ask(story([3], [0]), state(2), good([0, 0, 2]), state(2), bad([0, 0, 2]), state(2), story([2], [0]),
                    state(1), state(2))
        self.assertEqual((found[1], found[3], found[5], found[7:]),
                         ([0, 2, 0, 2], [0, 2, 1, 2], [0, 2, 2, 2], [[0, 1, 0, 1], [-4]]))

    def test_it_changes_nothing(self):
        found = ask(*FORK, act(TO_1), state(7), state(6), state(5), state(8), state(-1), NOW, CAN, UNDO, UNDO)
        self.assertEqual(found[11:], [[0, 7, 1, 7], [0, 6, 2, 6], [0, 5, 0, 5], [-4], [-1], [0, 1, 0, 1], [0, 0, 2, 3, 4],
                                      [0, 0, 0, 0], [-9]])


if __name__ == "__main__":
    unittest.main()
