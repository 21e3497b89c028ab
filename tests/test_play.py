"""Calls 5 to 9: act, restart, undo, now and can."""

import unittest

from provedhints.game import Game
from tests.helper import (CAN, FAR, HINT, NOW, RESTART, UNDO, act, action, ask, bad, good, last, story, turn)

COUNTER = [story([8, 2], [0, 0]), action([], [0, 1, 1]), action([0, 0, 2], [1, 1, 1])]


class Act(unittest.TestCase):
    def test_the_state_now_is_answered(self):
        found = ask(*COUNTER, act(0), act(0), act(1), NOW)
        self.assertEqual(found[3:], [[0, 1, 0, 1, 0], [0, 2, 0, 2, 0], [0, 10, 0, 2, 1], [0, 10, 0, 2, 1]])

    def test_it_may_lead_to_an_end(self):
        self.assertEqual(last(*COUNTER, good([0, 0, 1]), act(0)), [0, 1, 1, 1, 0])
        self.assertEqual(last(*COUNTER, bad([0, 0, 1]), act(0)), [0, 1, 2, 1, 0])

    def test_out_of_range(self):
        for a in (-1, 16, 17, -16, 1024, FAR, -FAR):
            self.assertEqual(last(*COUNTER, act(a)), [-1])
            self.assertEqual(last(act(a)), [-1])
            self.assertEqual(last(*COUNTER, bad([]), act(a)), [-1])

    def test_no_story(self):
        for a in (0, 15):
            self.assertEqual(last(act(a)), [-2])

    def test_no_such_action(self):
        for a in (2, 15):
            self.assertEqual(last(*COUNTER, act(a)), [-3])
            self.assertEqual(last(*COUNTER, good([]), act(a)), [-3])
            self.assertEqual(last(*COUNTER, bad([]), act(a)), [-3])
        self.assertEqual(last(story([2], [0]), act(0)), [-3])

    def test_at_an_end(self):
        for end in (good, bad):
            self.assertEqual(last(*COUNTER, end([]), act(0)), [-5])
            self.assertEqual(last(*COUNTER, end([]), act(1)), [-5])
            self.assertEqual(ask(*COUNTER, end([0, 0, 1]), act(0), act(0), act(1))[4:],
                             [[0, 1, 1 if end is good else 2, 1, 0], [-5], [-5]])

    def test_cannot_be_done_now(self):
        self.assertEqual(last(*COUNTER, act(1)), [-6])
        self.assertEqual(ask(*COUNTER, act(0), act(0), act(1), act(0), act(1))[5:],
                         [[0, 10, 0, 2, 1], [0, 11, 0, 3, 1], [-6]])

    def test_a_refused_act_changes_nothing(self):
        for a in (-1, 16, FAR, 2, 15, 1):
            found = ask(*COUNTER, act(0), act(a), NOW, CAN, HINT, UNDO, UNDO)
            self.assertEqual(found[5:], [[0, 1, 0, 1, 0], [0, 0], [0, 0], [0, 0, 0, 0, 0], [-9]])
        found = ask(*COUNTER, good([0, 0, 1]), act(0), act(0), NOW, UNDO, UNDO)
        self.assertEqual(found[5:], [[-5], [0, 1, 1, 1, 0], [0, 0, 0, 0, 0], [-9]])


class Restart(unittest.TestCase):
    def test_back_to_the_first_values(self):
        found = ask(story([5, 2], [3, 1]), action([], [0, 1, 1]), act(0), RESTART, NOW, UNDO)
        self.assertEqual(found[2:], [[0, 9, 0, 4, 1], [0, 8, 0, 3, 1], [0, 8, 0, 3, 1], [-9]])

    def test_nothing_to_undo_but_what_comes_behind_it(self):
        found = ask(*COUNTER, act(0), act(0), RESTART, act(0), UNDO, UNDO)
        self.assertEqual(found[5:], [[0, 0, 0, 0, 0], [0, 1, 0, 1, 0], [0, 0, 0, 0, 0], [-9]])

    def test_the_story_stays(self):
        found = ask(*COUNTER, turn([], [1, 0, 1]), good([0, 0, 1]), act(0), RESTART, HINT, act(0))
        self.assertEqual(found[6:], [[0, 0, 0, 0, 0], [0, 1, 1, 0], [0, 9, 1, 1, 1]])

    def test_from_an_end_and_to_one(self):
        self.assertEqual(last(*COUNTER, bad([0, 0, 1]), act(0), RESTART), [0, 0, 0, 0, 0])
        self.assertEqual(last(*COUNTER, good([0, 0, 0]), RESTART), [0, 0, 1, 0, 0])

    def test_no_story(self):
        self.assertEqual(ask(RESTART, NOW), [[-2], [-2]])


class Undo(unittest.TestCase):
    def test_act_by_act(self):
        found = ask(*COUNTER, act(0), act(0), act(1), UNDO, UNDO, UNDO, UNDO, NOW)
        self.assertEqual(found[6:], [[0, 2, 0, 2, 0], [0, 1, 0, 1, 0], [0, 0, 0, 0, 0], [-9], [0, 0, 0, 0, 0]])

    def test_acts_behind_an_undo(self):
        found = ask(*COUNTER, act(0), act(0), act(0), UNDO, act(1), act(0), UNDO, UNDO, UNDO, UNDO, UNDO)
        self.assertEqual(found[6:], [[0, 2, 0, 2, 0], [0, 10, 0, 2, 1], [0, 11, 0, 3, 1], [0, 10, 0, 2, 1],
                                     [0, 2, 0, 2, 0], [0, 1, 0, 1, 0], [0, 0, 0, 0, 0], [-9]])

    def test_an_act_that_leaves_the_state_is_undone_too(self):
        found = ask(story([2], [0]), action([], []), act(0), act(0), UNDO, UNDO, UNDO)
        self.assertEqual(found[4:], [[0, 0, 0, 0], [0, 0, 0, 0], [-9]])

    def test_from_an_end(self):
        for end, kind in ((good, 1), (bad, 2)):
            found = ask(*COUNTER, end([0, 0, 1]), act(0), UNDO, CAN)
            self.assertEqual(found[4:], [[0, 1, kind, 1, 0], [0, 0, 0, 0, 0], [0, 0]])

    def test_to_what_has_become_an_end(self):
        self.assertEqual(last(*COUNTER, act(0), good([0, 0, 0]), UNDO), [0, 0, 1, 0, 0])

    def test_refused_acts_are_not_undone(self):
        found = ask(*COUNTER, act(0), act(1), act(7), act(99), UNDO, UNDO)
        self.assertEqual(found[4:], [[-6], [-3], [-1], [0, 0, 0, 0, 0], [-9]])

    def test_no_story(self):
        self.assertEqual(ask(UNDO), [[-2]])

    def test_nothing_to_undo(self):
        self.assertEqual(ask(story([2], [1]), UNDO, NOW), [[0, 2], [-9], [0, 1, 0, 1]])

    def test_as_many_as_a_line_has(self):
        found = ask(*COUNTER, *[act(0) for k in range(98)], *[UNDO for k in range(99)])
        self.assertEqual(len(found), 200)
        self.assertEqual(found[3:101], [[0, k % 8, 0, k % 8, 0] for k in range(1, 99)])
        self.assertEqual(found[101:199], [[0, k % 8, 0, k % 8, 0] for k in range(97, -1, -1)])
        self.assertEqual(found[199], [-9])

    def played(self, acts):
        game = Game()
        game.begin([7], [0])
        game.tell_action([], [0, 1, 1])
        for k in range(acts):
            game.act(0)
        return game

    def test_200_acts_are_undone(self):
        game = self.played(200)
        for k in range(199, -1, -1):
            self.assertEqual(game.undo(), [0, k % 7, 0, k % 7])
        self.assertEqual(game.undo(), [-9])

    def test_of_more_acts_the_last_200(self):
        for acts in (201, 250, 403):
            game = self.played(acts)
            for k in range(acts - 1, acts - 201, -1):
                self.assertEqual(game.undo(), [0, k % 7, 0, k % 7])
            self.assertEqual(game.undo(), [-9])
            self.assertEqual(game.tell_now(), [0, (acts - 200) % 7, 0, (acts - 200) % 7])


class NowAndCan(unittest.TestCase):
    def test_no_story(self):
        self.assertEqual(ask(NOW, CAN), [[-2], [-2]])

    def test_can_answers_the_least_first(self):
        found = ask(story([3], [1]), action([], []), action([0, 0, 0], []), action([0, 0, 1], []), action([0, 1, 1], []),
                    action([0, 1, 2], [0, 0, 2]), CAN, act(4), CAN)
        self.assertEqual(found[6:], [[0, 0, 2, 4], [0, 2, 0, 2], [0, 0, 3]])

    def test_can_answers_all_16(self):
        self.assertEqual(last(story([2], [0]), *[action([], []) for k in range(16)], CAN), [0] + list(range(16)))

    def test_none_can_be_done(self):
        self.assertEqual(last(story([2], [0]), CAN), [0])
        self.assertEqual(last(story([2], [0]), action([0, 0, 1], []), CAN), [0])

    def test_none_can_be_done_at_an_end(self):
        self.assertEqual(last(*COUNTER, good([]), CAN), [0])
        self.assertEqual(last(*COUNTER, bad([]), CAN), [0])

    def test_they_change_nothing(self):
        found = ask(*COUNTER, act(0), NOW, NOW, CAN, CAN, HINT, HINT, NOW, UNDO, UNDO)
        self.assertEqual(found[4:], [[0, 1, 0, 1, 0]] * 2 + [[0, 0]] * 4 + [[0, 1, 0, 1, 0], [0, 0, 0, 0, 0], [-9]])


if __name__ == "__main__":
    unittest.main()
