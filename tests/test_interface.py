"""The one list that is handed in and the one that is given back."""

import doctest
import inspect
import pathlib
import sys
import unittest

from provedhints.stories import answers
from tests.helper import (CAN, FAR, HINT, NOW, RANKS, RESTART, SURVEY, UNDO, WAY, WAYS, act, action, ask, bad, check,
                          choice, distance, good, last, line_of, long_way, must, rank, some_story, source, state, story,
                          turn)

WHOLE = [NOW, story([3, 2], [0, 0]), action([], [0, 1, 1]), action([0, 0, 1], [1, 1, 1]), turn([0, 0, 2], [1, 0, 0]),
         good([0, 0, 2, 1, 0, 0]), bad([0, 0, 2, 1, 0, 1]), act(0), HINT, CAN, act(1), UNDO, act(9), RESTART, NOW,
         WAY, rank(2), choice(0), SURVEY, RANKS, check([3, 2, 1, 3, 2, 0]), check([]), distance(0, 5), must(1, 1), WAYS,
         state(5), rank(6), rank(FAR), choice(1), choice(-FAR), check([FAR] * 1030), distance(FAR, 0), distance(6, 5),
         must(2, 0), must(0, -FAR), state(1023), state(1024), bad([0, 0, 0]), WAY, WAYS, must(0, 0),
         story([1], [0]), action([0] * 1030, [FAR] * 1030)]


class Unchanged(list):
    """A list that doesn't let itself be changed, not for a while either."""

    def refuse(self, *given, **named):
        raise AssertionError("what is handed in is changed")

    append = extend = insert = pop = remove = clear = sort = reverse = refuse
    __setitem__ = __delitem__ = __iadd__ = __imul__ = refuse


class Interface(unittest.TestCase):
    def test_a_line_told_number_by_number(self):
        calls = [8, 0, 2, 3, 2, 2, 0, 0, 1, 0, 3, 0, 1, 1, 2, 3, 0, 0, 1, 3, 1, 1, 1, 3, 3, 0, 0, 2, 4, 3, 0, 0, 0,
                 5, 0, 9, 8]
        self.assertEqual(answers(calls), [1, -2, 2, 0, 6, 2, 0, 0, 2, 0, 0, 2, 0, 0, 2, 0, 0, 1, -5, 1, 0,
                                          5, 0, 0, 2, 0, 0])

    def test_a_line_told_number_by_number_of_what_is_known(self):
        calls = [0, 1, 4, 1, 0, 1, 0, 3, 0, 1, 1, 1, 0, 3, 0, 1, 1, 3, 3, 0, 0, 3, 11, 12, 1, 12, 4, 13, 1, 14, 15,
                 16, 4, 4, 3, 2, 1, 16, 0, 17, 0, 2, 17, 3, 1024, 18, 0, 2, 18, 1, 0, 19, 20, 3, 20, -1, 4, 0, 11, 8]
        self.assertEqual(answers(calls), [2, 0, 4, 2, 0, 0, 2, 0, 1, 2, 0, 0, 4, 0, 0, 0, 0, 2, 0, 3, 1, -4,
                                          6, 0, 1, 4, 3, 0, 0, 6, 0, 4, 1, 0, 3, 0, 5, 0, 4, 3, 2, 1, 2, 0, 1, 2, 0, 0,
                                          2, 0, 3, 1, -1, 2, 0, 1, 1, -8, 2, 0, 8, 4, 0, 3, 1, 3, 1, -1, 2, 0, 0,
                                          1, -10, 4, 0, 0, 2, 0])

    def test_each_call_is_read_to_its_end(self):
        for call in WHOLE:
            found = ask(story([2], [0]), call, NOW, NOW)
            self.assertEqual(len(found), 4)
            self.assertEqual(found[2], found[3])

    def test_how_many_numbers_stand_before_each_answer(self):
        back = answers(line_of(WHOLE))
        self.assertEqual(back[:5], [1, -2, 2, 0, 6])
        place = count = 0
        while place < len(back):
            self.assertTrue(back[place] >= 1)
            self.assertTrue(back[place + 1] == 0 or back[place] == 1)
            place += back[place] + 1
            count += 1
        self.assertEqual((place, count), (len(back), len(WHOLE)))

    def test_whole_numbers_in_a_list(self):
        back = answers(line_of(WHOLE))
        self.assertIs(type(back), list)
        for number in back:
            self.assertIs(type(number), int)

    def test_what_is_handed_in_is_not_changed(self):
        calls = line_of(WHOLE)
        kept = list(calls)
        answers(calls)
        self.assertEqual(calls, kept)
        for seed in range(50):
            sizes, told = some_story(source(seed))
            table = last(*told, RANKS)[1:]
            calls = line_of(told + [HINT, act(0), HINT, UNDO, RESTART, WAY, rank(1), choice(0), SURVEY, RANKS, check(table),
                                    check([0]), distance(0, 1), must(0, 1), WAYS, state(1)])
            guarded = Unchanged(calls)
            self.assertEqual(answers(guarded), answers(calls))
            self.assertEqual(list(guarded), calls)

    def test_what_is_given_back_is_new(self):
        calls = line_of(WHOLE)
        first = answers(calls)
        kept = list(first)
        first.clear()
        self.assertEqual(answers(calls), kept)

    def test_nothing_is_kept_from_one_time_to_the_next(self):
        wanted = answers(line_of(WHOLE))
        for between in ([NOW], [story([2], [0]), action([], []), good([]), act(0)], WHOLE):
            answers(line_of(between))
            self.assertEqual(answers(NOW), [1, -2])
            self.assertEqual(answers(line_of(WHOLE)), wanted)

    def test_as_long_as_a_line_may_be(self):
        found = ask(*[action([0] * 40, [0] * 41) for k in range(200)])
        self.assertEqual(found, [[-1]] * 200)
        long = [0] * 1030
        found = ask(*[action(long, long) for k in range(8)], *[NOW for k in range(192)])
        self.assertEqual(found, [[-1]] * 8 + [[-2]] * 192)

    def test_200_calls_on_the_greatest_stories(self):
        sizes = [8, 8, 8, 2]
        calls = [story(sizes, [0, 0, 0, 0])] + [action([v % 4, 1, 1], [v % 4, 1, 1]) for v in range(16)]
        calls += [turn([v % 4, 0, 1], [(v + 1) % 4, 1, 1]) for v in range(8)] + [good([0, 0, 7, 1, 0, 7])]
        calls += [HINT, NOW] * 87
        found = ask(*calls)
        self.assertEqual(len(found), 200)
        self.assertEqual(found[26::2], [found[26]] * 87)
        self.assertEqual(found[27::2], [[0, 0, 0, 0, 0, 0, 0]] * 87)

    def test_what_the_readme_shows(self):
        readme = pathlib.Path(__file__).resolve().parent.parent / "README.md"
        failed, tried = doctest.testfile(str(readme), module_relative=False, encoding="utf-8")
        self.assertEqual((failed, tried), (0, 3))

    def test_what_is_no_call_is_not_taken_for_one(self):
        for call in (-1, 21, FAR):
            self.assertRaises(ValueError, answers, [call])

    def test_no_story_at_the_beginning(self):
        calls = [action([], []), turn([], []), good([]), bad([]), act(0), RESTART, UNDO, NOW, CAN, HINT, WAY, rank(0),
                 choice(0), SURVEY, RANKS, check([]), distance(0, 0), must(0, 0), WAYS, state(0)]
        for call in calls:
            self.assertEqual(ask(call), [[-2]])
        self.assertEqual(ask(*calls), [[-2]] * 20)

    def test_what_is_long_is_gone_through_by_loops(self):
        table = [1] + list(range(1024, 1, -1))
        calls = long_way() + [HINT, WAY, rank(1), choice(0), SURVEY, RANKS, check(table), distance(1, 0), must(3, 1), WAYS]
        wanted = ask(*calls)
        line = line_of(calls * 3 + [NOW] * 152)
        limit = sys.getrecursionlimit()
        sys.setrecursionlimit(len(inspect.stack()) + 30)
        try:
            back = answers(line)
        finally:
            sys.setrecursionlimit(limit)
        self.assertEqual(len(wanted[7]), 1024)
        self.assertEqual(back[:-152 * 8], 3 * line_of([len(answer)] + answer for answer in wanted))

    def test_what_is_long_200_times(self):
        calls = long_way()
        for call, answer in ((RANKS, [0, 1] + list(range(1024, 1, -1))), (WAY, [0] * 1024), (SURVEY, [0, 1024, 1, 0, 1023, 0]),
                             (distance(1, 0), [0, 1024]), (must(2, 7), [0, 1]), (WAYS, [0, 1]), (rank(2), [0, 1023]),
                             (choice(0), [0, 2, 1024, 1023, 0, 0])):
            self.assertEqual(ask(*calls, *[call] * 194)[6:], [answer] * 194)
        self.assertEqual(ask(*calls, *[check([0] * 1024)] * 16)[6:], [[0, 0]] * 16)


if __name__ == "__main__":
    unittest.main()
