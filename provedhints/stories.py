"""The calls of one line: read from the one list that is handed in, and answered in one list."""

from provedhints.game import Game

STORY = 0
ACTION = 1
TURN = 2
GOOD = 3
BAD = 4
ACT = 5
RESTART = 6
UNDO = 7
NOW = 8
CAN = 9
HINT = 10


class Reader:
    def __init__(self, calls):
        self.calls = calls
        self.place = 0

    def at_end(self):
        return self.place >= len(self.calls)

    def read_number(self):
        number = self.calls[self.place]
        self.place = self.place + 1
        return number

    def read_row(self):
        length = self.read_number()
        row = self.calls[self.place:self.place + length]
        self.place = self.place + length
        return row


# The calls with two rows.
def answer_telling(call, game, reader):
    first_row = reader.read_row()
    second_row = reader.read_row()
    if call == STORY:
        return game.begin(first_row, second_row)
    if call == ACTION:
        return game.tell_action(first_row, second_row)
    return game.tell_turn(first_row, second_row)


# The calls with nothing behind their number.
def answer_plain(call, game):
    if call == RESTART:
        return game.restart()
    if call == UNDO:
        return game.undo()
    if call == NOW:
        return game.tell_now()
    if call == CAN:
        return game.can()
    if call == HINT:
        return game.hint()
    raise NotImplementedError(f"call {call}")


def answer_call(game, reader):
    call = reader.read_number()
    if call == STORY or call == ACTION or call == TURN:
        return answer_telling(call, game, reader)
    if call == GOOD:
        return game.tell_good(reader.read_row())
    if call == BAD:
        return game.tell_bad(reader.read_row())
    if call == ACT:
        return game.act(reader.read_number())
    return answer_plain(call, game)


def answers(calls):
    game = Game()
    reader = Reader(calls)
    answered = []
    while not reader.at_end():
        answer = answer_call(game, reader)
        answered.append(len(answer))
        answered.extend(answer)
    return answered
