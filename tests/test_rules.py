"""Calls 1 to 4: action, turn, good and bad; conditions and effects."""

import unittest

from tests.helper import (CAN, FAR, HINT, NOW, UNDO, act, action, ask, bad, good, last, story, turn)

KINDS = {"action": (1, 16), "turn": (2, 8), "good": (3, 4), "bad": (4, 4)}


def telling(number, conditions, effects=()):
    if number <= 2:
        return {1: action, 2: turn}[number](conditions, list(effects))
    return {3: good, 4: bad}[number](conditions)


class NumbersAndLimits(unittest.TestCase):
    def test_numbered_from_0_up_to_the_most_there_may_be(self):
        for number, most in KINDS.values():
            found = ask(story([2], [0]), *[telling(number, [0, 0, 1]) for k in range(most + 2)])
            self.assertEqual(found[1:], [[0, k] for k in range(most)] + [[-7], [-7]], number)

    def test_each_kind_is_counted_by_itself(self):
        calls = [story([2], [0])]
        wanted = []
        for number, most in KINDS.values():
            calls += [telling(number, [0, 0, 1]) for k in range(most + 1)]
            wanted += [[0, k] for k in range(most)] + [[-7]]
        self.assertEqual(ask(*calls)[1:], wanted)

    def test_the_16th_action_can_be_done_and_the_17th_is_not_there(self):
        calls = [story([8], [0])] + [action([0, 0, 7], []) for k in range(15)] + [action([], [0, 0, 5])]
        found = ask(*calls, action([], [0, 0, 6]), CAN, act(15), CAN)
        self.assertEqual(found[16:], [[0, 15], [-7], [0, 15], [0, 5, 0, 5], [0, 15]])

    def test_the_8th_turn_rule_is_done_and_the_9th_is_not_there(self):
        calls = [story([8, 8], [0, 0]), action([], [])] + [turn([], [0, 1, 1]) for k in range(7)]
        found = ask(*calls, turn([], [1, 0, 3]), turn([], [1, 0, 4]), act(0))
        self.assertEqual(found[9:], [[0, 7], [-7], [0, 7 + 8 * 3, 0, 7, 3]])

    def test_the_4th_end_is_one_and_the_5th_is_not_there(self):
        for number, kind in ((3, 1), (4, 2)):
            for x, told in ((3, kind), (4, 0)):
                calls = [story([8], [x])] + [telling(number, [0, 0, k]) for k in range(5)]
                found = ask(*calls, NOW)
                self.assertEqual(found[4:], [[0, 3], [-7], [0, x, told, x]])

    def test_no_story(self):
        for number, most in KINDS.values():
            self.assertEqual(ask(telling(number, [])), [[-2]])
            self.assertEqual(ask(telling(number, [0] * 24)), [[-2]])
            self.assertEqual(ask(telling(number, [0])), [[-2]])
            self.assertEqual(ask(telling(number, [FAR, -FAR, FAR])), [[-2]])

    def test_no_story_and_lists_too_long(self):
        for number, most in KINDS.values():
            for length in (25, 27, 1030):
                self.assertEqual(ask(telling(number, [0] * length)), [[-1]])
        for tell in (action, turn):
            for length in (25, 27, 1030):
                self.assertEqual(ask(tell([], [0] * length)), [[-1]])
                self.assertEqual(ask(tell([0] * length, [0] * length)), [[-1]])

    def test_lists_of_24_numbers_and_more(self):
        for number, most in KINDS.values():
            self.assertEqual(last(story([2], [0]), telling(number, [0, 0, 0] * 8)), [0, 0])
            for numbers in ([0] * 25, [0, 0, 0] * 9, [0] * 1030, [FAR] * 1030, [0, 0, 0] * 8 + [0]):
                self.assertEqual(last(story([2], [0]), telling(number, numbers)), [-1])
        for tell in (action, turn):
            self.assertEqual(last(story([2], [0]), tell([], [0, 1, 1] * 8)), [0, 0])
            self.assertEqual(last(story([2], [0]), tell([0, 0, 0] * 8, [0, 1, 1] * 8)), [0, 0])
            for numbers in ([0] * 25, [0, 1, 1] * 9, [0] * 1030, [-FAR] * 1030):
                self.assertEqual(last(story([2], [0]), tell([], numbers)), [-1])
                self.assertEqual(last(story([2], [0]), tell([7], numbers)), [-1])

    def test_all_24_numbers_count(self):
        found = ask(story([8], [0]), action([0, 1, 1] * 7 + [0, 1, 2], []), CAN, action([], [0, 0, 2]), act(1), CAN)
        self.assertEqual(found[2], [0, 0])
        self.assertEqual(found[5], [0, 1])
        self.assertEqual(last(story([8], [0]), action([], [0, 1, 1] * 7 + [0, 1, 1]), act(0)), [0, 0, 0, 0])
        self.assertEqual(last(story([8], [0]), action([], [0, 1, 1] * 6 + [0, 1, 2, 0, 1, 7]), act(0)), [0, 7, 0, 7])

    def test_as_many_as_may_be_comes_before_not_right_and_behind_too_long(self):
        for number, most in KINDS.values():
            full = [story([2], [0])] + [telling(number, [0, 0, 1]) for k in range(most)]
            self.assertEqual(last(*full, telling(number, [0])), [-7])
            self.assertEqual(last(*full, telling(number, [FAR, 0, 0])), [-7])
            self.assertEqual(last(*full, telling(number, [0] * 25)), [-1])


class NotRight(unittest.TestCase):
    wrong_conditions = (
        [0], [0, 0], [0, 0, 0, 0], [0, 0, 0, 0, 0], [0] * 22, [0] * 23,
        [2, 0, 0], [-1, 0, 0], [7, 0, 0], [8, 0, 0], [FAR, 0, 0], [-FAR, 0, 0],
        [0, 2, 0], [0, -1, 0], [0, FAR, 0], [0, -FAR, 0],
        [0, 0, 3], [0, 0, -1], [0, 1, 3], [0, 1, -1], [0, 0, 7], [1, 0, 5], [1, 1, 5], [0, 0, FAR], [0, 1, -FAR],
        [0, 0, 0, 2, 0, 0], [0, 0, 0, 0, 2, 0], [0, 0, 0, 1, 0, 5], [2, 0, 0, 0, 0, 0], [0, 0, 0] * 7 + [0, 0, 3],
    )
    wrong_effects = (
        [0], [0, 0], [0, 0, 0, 0], [0, 0, 0, 0, 0], [0] * 22, [0] * 23,
        [2, 0, 0], [-1, 0, 0], [2, 1, 0], [-1, 1, 0], [2, 2, 0], [-1, 2, 0], [FAR, 0, 0], [-FAR, 2, 0],
        [0, 3, 0], [0, -1, 0], [0, FAR, 0], [0, -FAR, 0],
        [0, 0, 8], [0, 0, -1], [0, 1, 8], [0, 1, -1], [0, 2, 2], [0, 2, -1], [1, 2, 4], [0, 2, 7],
        [0, 0, FAR], [0, 1, FAR], [0, 1, -FAR], [0, 2, FAR], [0, 2, -FAR],
        [0, 0, 0, 2, 0, 0], [0, 0, 0, 0, 3, 0], [0, 0, 0, 0, 0, 8], [0, 0, 8, 0, 0, 0], [0, 0, 0] * 7 + [0, 2, 2],
    )

    def refused(self, call):
        """Refused by -8, and nothing has changed: the next of its kind has the number 0, and hints are as before."""
        begun = [story([3, 5], [0, 1]), action([], [0, 1, 1]), good([0, 0, 2, 1, 0, 1]), act(0)]
        found = ask(*begun, call, NOW, CAN, HINT, turn([0, 0, 0], []), bad([0, 0, 0, 0, 0, 1]), good([0, 0, 0, 0, 0, 1]),
                    action([0, 0, 0], []), act(0), UNDO, UNDO, UNDO)
        self.assertEqual(found[4:], [[-8], [0, 4, 0, 1, 1], [0, 0], [0, 1, 1, 0], [0, 0], [0, 0], [0, 1], [0, 1],
                                     [0, 5, 1, 2, 1], [0, 4, 0, 1, 1], [0, 3, 0, 0, 1], [-9]], call)

    def test_conditions(self):
        for conditions in self.wrong_conditions:
            for number in range(1, 5):
                self.refused(telling(number, conditions))

    def test_effects(self):
        for effects in self.wrong_effects:
            self.refused(action([], effects))
            self.refused(turn([], effects))
            self.refused(action([0, 0, 0], effects))
            self.refused(turn([0, 0, 0], effects))

    def test_both(self):
        for tell in (action, turn):
            self.refused(tell([0], [0, 0]))
            self.refused(tell([0], [0, 0, 0]))

    def test_all_that_is_right(self):
        for number in range(1, 5):
            for v, size in ((0, 3), (1, 5)):
                for rel in (0, 1):
                    for x in range(size):
                        self.assertEqual(last(story([3, 5], [0, 1]), telling(number, [v, rel, x])), [0, 0])
        for tell in (action, turn):
            for v in (0, 1):
                for op in (0, 1):
                    for x in range(8):
                        self.assertEqual(last(story([3, 5], [0, 1]), tell([], [v, op, x])), [0, 0])
                for x in (0, 1):
                    self.assertEqual(last(story([3, 5], [0, 1]), tell([], [v, 2, x])), [0, 0])

    def test_the_eighth_variable(self):
        begun = story([2] * 8, [0] * 8)
        self.assertEqual(last(begun, action([7, 0, 0], [7, 2, 7]), ), [0, 0])
        self.assertEqual(last(begun, action([8, 0, 0], [])), [-8])
        self.assertEqual(last(begun, action([], [8, 0, 0])), [-8])
        self.assertEqual(last(begun, action([], [7, 2, 8])), [-8])

    def test_no_second_variable_in_a_story_of_one(self):
        begun = story([8], [0])
        self.assertEqual(last(begun, action([1, 0, 0], [])), [-8])
        self.assertEqual(last(begun, action([], [0, 2, 1])), [-8])
        self.assertEqual(last(begun, action([0, 0, 7], [0, 2, 0])), [0, 0])


class Conditions(unittest.TestCase):
    def possible(self, values, conditions):
        return last(story([4, 3], values), action(conditions, []), CAN) == [0, 0]

    def test_none_at_all_hold(self):
        self.assertTrue(self.possible([2, 1], []))

    def test_has_the_value(self):
        for x in range(4):
            self.assertEqual(self.possible([2, 1], [0, 0, x]), x == 2)

    def test_has_not_the_value(self):
        for x in range(4):
            self.assertEqual(self.possible([2, 1], [0, 1, x]), x != 2)

    def test_all_of_them_must_hold(self):
        self.assertTrue(self.possible([2, 1], [0, 0, 2, 1, 0, 1]))
        self.assertFalse(self.possible([2, 1], [0, 0, 2, 1, 0, 0]))
        self.assertFalse(self.possible([2, 1], [0, 0, 1, 1, 0, 1]))
        self.assertFalse(self.possible([2, 1], [0, 0, 2, 0, 1, 2]))
        self.assertTrue(self.possible([2, 1], [0, 1, 0, 0, 1, 1, 0, 1, 3]))


class Effects(unittest.TestCase):
    def after(self, sizes, values, effects):
        answer = last(story(sizes, values), action([], effects), act(0))
        return answer[3:]

    def test_none_at_all(self):
        self.assertEqual(self.after([4, 3], [2, 1], []), [2, 1])

    def test_gets_the_value_modulo_the_size(self):
        for size in range(2, 9):
            for x in range(8):
                self.assertEqual(self.after([size, 2], [1, 1], [0, 0, x]), [x % size, 1])

    def test_gets_its_value_plus_x_modulo_the_size(self):
        for size in range(2, 9):
            for value in range(size):
                for x in range(8):
                    self.assertEqual(self.after([size, 2], [value, 1], [0, 1, x]), [(value + x) % size, 1])

    def test_gets_the_value_of_a_variable_modulo_the_size(self):
        for value in range(8):
            self.assertEqual(self.after([3, 8], [1, value], [0, 2, 1]), [value % 3, value])
            self.assertEqual(self.after([8, 3], [value, 1], [0, 2, 1]), [1, 1])
            self.assertEqual(self.after([8, 3], [value, 1], [0, 2, 0]), [value, 1])

    def test_one_after_the_other(self):
        self.assertEqual(self.after([5, 5], [1, 2], [0, 2, 1, 1, 2, 0]), [2, 2])
        self.assertEqual(self.after([5, 5], [1, 2], [1, 2, 0, 0, 2, 1]), [1, 1])
        self.assertEqual(self.after([5, 5, 5], [1, 2, 0], [2, 2, 0, 0, 2, 1, 1, 2, 2]), [2, 1, 1])
        self.assertEqual(self.after([5], [1], [0, 0, 3, 0, 1, 1]), [4])
        self.assertEqual(self.after([5], [1], [0, 1, 1, 0, 0, 3]), [3])
        self.assertEqual(self.after([2, 8], [1, 5], [1, 2, 0, 0, 2, 1]), [1, 1])
        self.assertEqual(self.after([3, 8], [0, 5], [0, 2, 1, 1, 2, 0]), [2, 2])

    def test_conditions_are_looked_at_before_the_effects_alone(self):
        self.assertEqual(last(story([5], [1]), action([0, 0, 1], [0, 0, 2, 0, 1, 1]), act(0)), [0, 3, 0, 3])


class Turns(unittest.TestCase):
    def test_after_every_action(self):
        found = ask(story([5, 5], [0, 0]), action([], [0, 1, 1]), turn([], [1, 1, 1]), NOW, act(0), act(0), UNDO)
        self.assertEqual(found[3:], [[0, 0, 0, 0, 0], [0, 6, 0, 1, 1], [0, 12, 0, 2, 2], [0, 6, 0, 1, 1]])

    def test_only_if_its_conditions_hold_after_the_effects(self):
        begun = [story([5, 5], [0, 0]), action([], [0, 1, 1])]
        self.assertEqual(last(*begun, turn([0, 0, 1], [1, 0, 3]), act(0)), [0, 16, 0, 1, 3])
        self.assertEqual(last(*begun, turn([0, 0, 0], [1, 0, 3]), act(0)), [0, 1, 0, 1, 0])
        self.assertEqual(last(*begun, turn([0, 1, 1], [1, 0, 3]), act(0)), [0, 1, 0, 1, 0])

    def test_in_order_each_on_the_values_as_they_are_then(self):
        begun = [story([5, 5], [0, 0]), action([], [0, 0, 1])]
        first, second = turn([0, 0, 1], [0, 0, 2]), turn([0, 0, 2], [1, 0, 4])
        self.assertEqual(last(*begun, first, second, act(0)), [0, 22, 0, 2, 4])
        self.assertEqual(last(*begun, second, first, act(0)), [0, 2, 0, 2, 0])
        self.assertEqual(last(*begun, turn([], [0, 1, 1]), turn([], [0, 0, 0]), act(0)), [0, 0, 0, 0, 0])
        self.assertEqual(last(*begun, turn([], [0, 0, 0]), turn([], [0, 1, 1]), act(0)), [0, 1, 0, 1, 0])

    def test_one_that_is_told_before_the_action_and_one_behind_it(self):
        found = last(story([5, 5], [0, 0]), turn([], [1, 1, 1]), action([], [0, 1, 1]), turn([], [1, 1, 2]), act(0))
        self.assertEqual(found, [0, 16, 0, 1, 3])

    def test_ends_on_the_way_do_not_matter(self):
        for end in (good, bad):
            found = ask(story([3], [0]), action([], [0, 0, 1]), turn([0, 0, 1], [0, 0, 2]), end([0, 0, 1]), act(0), HINT)
            self.assertEqual(found[4:], [[0, 2, 0, 2], [0, 0]])
        found = ask(story([4], [0]), action([], [0, 0, 1, 0, 0, 2]), end([0, 0, 1]), act(0))
        self.assertEqual(found[3], [0, 2, 0, 2])

    def test_a_turn_rule_may_come_while_it_is_played(self):
        found = ask(story([5], [0]), action([], [0, 1, 1]), act(0), turn([], [0, 1, 1]), NOW, act(0), UNDO, UNDO, UNDO)
        self.assertEqual(found[2:], [[0, 1, 0, 1], [0, 0], [0, 1, 0, 1], [0, 3, 0, 3], [0, 1, 0, 1], [0, 0, 0, 0], [-9]])


class Ends(unittest.TestCase):
    def test_goes_on_good_and_bad(self):
        for x, kind in ((0, 0), (1, 1), (2, 2)):
            self.assertEqual(last(story([3], [x]), good([0, 0, 1]), bad([0, 0, 2]), NOW), [0, x, kind, x])

    def test_both_at_once_is_a_bad_end_in_whichever_order(self):
        self.assertEqual(last(story([2], [0]), good([]), bad([]), NOW), [0, 0, 2, 0])
        self.assertEqual(last(story([2], [0]), bad([]), good([]), NOW), [0, 0, 2, 0])
        self.assertEqual(last(story([2, 2], [1, 1]), good([0, 0, 1]), bad([1, 0, 1]), good([1, 0, 1]), NOW),
                         [0, 3, 2, 1, 1])

    def test_empty_conditions_always_hold(self):
        self.assertEqual(last(story([3], [1]), good([]), NOW), [0, 1, 1, 1])
        self.assertEqual(last(story([3], [1]), bad([]), NOW), [0, 1, 2, 1])

    def test_one_of_several_is_enough(self):
        for x in range(4):
            self.assertEqual(last(story([4], [x]), good([0, 0, 0]), good([0, 0, 2]), NOW), [0, x, (x + 1) % 2, x])
            self.assertEqual(last(story([4], [x]), bad([0, 0, 0]), bad([0, 0, 2]), NOW), [0, x, 2 * ((x + 1) % 2), x])

    def test_all_conditions_of_one_end_must_hold(self):
        self.assertEqual(last(story([2, 2], [1, 0]), good([0, 0, 1, 1, 0, 1]), NOW), [0, 1, 0, 1, 0])
        self.assertEqual(last(story([2, 2], [1, 1]), good([0, 0, 1, 1, 0, 1]), NOW), [0, 3, 1, 1, 1])

    def test_the_state_now_and_what_can_be_undone_stay(self):
        for call, kind in ((action([], []), 0), (turn([], [0, 1, 1]), 0), (good([0, 0, 2]), 1), (bad([0, 0, 2]), 2)):
            found = ask(story([5], [0]), action([], [0, 1, 1]), act(0), act(0), call, NOW, UNDO, UNDO, UNDO)
            self.assertEqual(found[5:], [[0, 2, kind, 2], [0, 1, 0, 1], [0, 0, 0, 0], [-9]])


if __name__ == "__main__":
    unittest.main()
