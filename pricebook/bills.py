"""The interface: a list of calls on one new object, and the list of their answers."""

from pricebook.asking import Desk
from pricebook.calls import answer_call, how_many_numbers, how_many_rows


# The rows that begin at this place, each behind how many numbers it has.
def rows_at(calls, place, how_many):
    rows = []
    for turn in range(how_many):
        end = place + 1 + calls[place]
        rows.append(calls[place + 1:end])
        place = end
    return rows


def answers(calls):
    desk = Desk()
    told = []
    place = 0
    while place < len(calls):
        call = calls[place]
        behind_numbers = place + 1 + how_many_numbers(call)
        numbers = calls[place + 1:behind_numbers]
        rows = rows_at(calls, behind_numbers, how_many_rows(call))
        answer = answer_call(desk, call, numbers, rows)
        told.append(len(answer))
        told.extend(answer)
        place = behind_numbers + sum([1 + len(row) for row in rows])
    return told
