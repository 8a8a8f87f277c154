"""The desk: reads the calls out of one list, has them done one by one, and tells the answers."""

from marketaccounts.billing import bill, bill_all
from marketaccounts.entries import add_member, begin_day, open_house, tell_item
from marketaccounts.failing import fail, recover
from marketaccounts.house import House
from marketaccounts.payments import deposit, fund, pay, refund, release
from marketaccounts.refusals import ACCEPTED, HOUSE_NOT_OPEN, OUT_OF_RANGE

OPEN_PLACE = 0
LAST_PLACE = 12

# The least and the greatest of each argument.
TERMS = (0, 1000)
RATE = (0, 10000)
HOUSE_PART = (0, 1000000000000000)
DAY = (0, 1000000)
MEMBER = (1, 16)
PERIOD = (0, 9999)
AMOUNT = (-1000000000000000, 1000000000000000)
CENTS = (1, 1000000000000000)


class UnknownCall(ValueError):
    pass


def call_at(place):
    if place < 0 or place > LAST_PLACE:
        raise UnknownCall(f"no call has the number {place}")
    calls = (
        (open_house, (TERMS, RATE, HOUSE_PART)),
        (add_member, ()),
        (begin_day, (DAY,)),
        (tell_item, (MEMBER, PERIOD, AMOUNT)),
        (bill, (MEMBER, PERIOD)),
        (bill_all, (PERIOD,)),
        (pay, (MEMBER, CENTS)),
        (refund, (MEMBER, CENTS)),
        (deposit, (MEMBER, CENTS)),
        (release, (MEMBER, CENTS)),
        (fund, (MEMBER, CENTS)),
        (fail, (MEMBER,)),
        (recover, (MEMBER, CENTS)),
    )
    return calls[place]


def count_of_arguments(place):
    return len(call_at(place)[1])


def are_in_range(arguments, ranges):
    return all([ends[0] <= argument <= ends[1] for argument, ends in zip(arguments, ranges)])


def done_with(deed, house, arguments):
    if len(arguments) == 0:
        return deed(house)
    if len(arguments) == 1:
        return deed(house, arguments[0])
    if len(arguments) == 2:
        return deed(house, arguments[0], arguments[1])
    return deed(house, arguments[0], arguments[1], arguments[2])


def answer_to_call(house, place, arguments):
    call = call_at(place)
    if not are_in_range(arguments, call[1]):
        return [OUT_OF_RANGE]
    if place != OPEN_PLACE and not house.is_open:
        return [HOUSE_NOT_OPEN]
    return done_with(call[0], house, arguments)


# The call is done on a twin, so that a refused one changes nothing, wherever it was refused.
def house_and_answer(house, place, arguments):
    trial = house.twin()
    answer = answer_to_call(trial, place, arguments)
    return (trial if answer[0] == ACCEPTED else house, answer)


def answers(calls):
    house = House()
    told = []
    at = 0
    while at < len(calls):
        place = calls[at]
        behind = at + 1 + count_of_arguments(place)
        outcome = house_and_answer(house, place, calls[at + 1:behind])
        house = outcome[0]
        told.append(len(outcome[1]))
        told.extend(outcome[1])
        at = behind
    return told
