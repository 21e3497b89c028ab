"""The calls of one line: read from the one list that is handed in, and answered in one list."""

from provedhints.game import Game

STORY = 0
ACTION = 1
TURN = 2
GOOD = 3
BAD = 4
ACT = 5
RESTART = 6
UNDO = 7
NOW = 8
CAN = 9
HINT = 10
WAY = 11
RANK = 12
CHOICE = 13
SURVEY = 14
RANKS = 15
CHECK = 16
DISTANCE = 17
MUST = 18
WAYS = 19
STATE = 20


class Reader:
    def __init__(self, calls):
        self.calls = calls
        self.place = 0

    def at_end(self):
        return self.place >= len(self.calls)

    def read_number(self):
        number = self.calls[self.place]
        self.place = self.place + 1
        return number

    def read_row(self):
        length = self.read_number()
        row = self.calls[self.place:self.place + length]
        self.place = self.place + length
        return row


def answer_two_rows(call, game, first_row, second_row):
    if call == STORY:
        return game.begin(first_row, second_row)
    if call == ACTION:
        return game.tell_action(first_row, second_row)
    return game.tell_turn(first_row, second_row)


def answer_row(call, game, row):
    if call == GOOD:
        return game.tell_good(row)
    if call == BAD:
        return game.tell_bad(row)
    return game.check(row)


def answer_number(call, game, number):
    if call == ACT:
        return game.act(number)
    if call == RANK:
        return game.rank(number)
    if call == CHOICE:
        return game.choice(number)
    return game.tell_state(number)


def answer_two_numbers(call, game, first_number, second_number):
    if call == DISTANCE:
        return game.distance(first_number, second_number)
    return game.must(first_number, second_number)


def answer_plain(call, game):
    if call == RESTART:
        return game.restart()
    if call == UNDO:
        return game.undo()
    if call == NOW:
        return game.tell_now()
    if call == CAN:
        return game.can()
    if call == HINT:
        return game.hint()
    if call == WAY:
        return game.way()
    if call == SURVEY:
        return game.survey()
    if call == RANKS:
        return game.tell_ranks()
    if call == WAYS:
        return game.ways()
    raise ValueError(f"no call {call}")


# What stands behind a call's number is read first, so that the next call is found whatever is answered.
def answer_call(game, reader):
    call = reader.read_number()
    if call in (STORY, ACTION, TURN):
        first_row = reader.read_row()
        second_row = reader.read_row()
        return answer_two_rows(call, game, first_row, second_row)
    if call in (GOOD, BAD, CHECK):
        return answer_row(call, game, reader.read_row())
    if call in (ACT, RANK, CHOICE, STATE):
        return answer_number(call, game, reader.read_number())
    if call in (DISTANCE, MUST):
        first_number = reader.read_number()
        second_number = reader.read_number()
        return answer_two_numbers(call, game, first_number, second_number)
    return answer_plain(call, game)


def answers(calls):
    game = Game()
    reader = Reader(calls)
    answered = []
    while not reader.at_end():
        answer = answer_call(game, reader)
        answered.append(len(answer))
        answered.extend(answer)
    return answered
