"""The desk: reads the calls out of one list, has them done one by one, and tells the answers."""

from marketaccounts.asking import ask_balance, ask_failure, ask_invoice, ask_invoices, ask_ledger, ask_loss
from marketaccounts.asking import ask_overdue, ask_preview, ask_reckon, ask_short, ask_taxes, ask_total
from marketaccounts.billing import bill, bill_all, close_period
from marketaccounts.entries import add_member, begin_day, open_house, tell_item
from marketaccounts.failing import fail, recover
from marketaccounts.house import House
from marketaccounts.payments import deposit, fund, pay, refund, release
from marketaccounts.refusals import ACCEPTED, HOUSE_NOT_OPEN, OUT_OF_RANGE

OPEN_PLACE = 0
LOSS_PLACE = 25
LAST_PLACE = 25

# The least and the greatest of each argument.
TERMS = (0, 1000)
RATE = (0, 10000)
HOUSE_PART = (0, 1000000000000000)
DAY = (0, 1000000)
MEMBER = (1, 16)
PERIOD = (0, 9999)
AMOUNT = (-1000000000000000, 1000000000000000)
CENTS = (1, 1000000000000000)
INVOICE = (1, 256)
TOTAL = (-1000000000000000000, 1000000000000000000)
PART = (0, 1000000000000000)
COUNT_OF_OTHERS = (0, 16)


class UnknownCall(ValueError):
    pass


def call_at(place):
    if place < 0 or place > LAST_PLACE:
        raise UnknownCall(f"no call has the number {place}")
    calls = (
        (open_house, (TERMS, RATE, HOUSE_PART)),
        (add_member, ()),
        (begin_day, (DAY,)),
        (tell_item, (MEMBER, PERIOD, AMOUNT)),
        (bill, (MEMBER, PERIOD)),
        (bill_all, (PERIOD,)),
        (pay, (MEMBER, CENTS)),
        (refund, (MEMBER, CENTS)),
        (deposit, (MEMBER, CENTS)),
        (release, (MEMBER, CENTS)),
        (fund, (MEMBER, CENTS)),
        (fail, (MEMBER,)),
        (recover, (MEMBER, CENTS)),
        (close_period, (PERIOD,)),
        (ask_total, (MEMBER, PERIOD)),
        (ask_invoice, (INVOICE,)),
        (ask_invoices, (MEMBER,)),
        (ask_balance, (MEMBER,)),
        (ask_short, ()),
        (ask_overdue, ()),
        (ask_ledger, ()),
        (ask_taxes, (PERIOD,)),
        (ask_failure, (MEMBER,)),
        (ask_preview, (MEMBER, PERIOD)),
        (ask_reckon, (TOTAL,)),
        (ask_loss, (PART, PART, PART, PART, COUNT_OF_OTHERS)),
    )
    return calls[place]


def end_of_call(calls, at):
    behind = at + 1 + len(call_at(calls[at])[1])
    # The last told number of loss is how many more its second row has.
    return behind + calls[behind - 1] if calls[at] == LOSS_PLACE else behind


def are_in_range(arguments, told_ranges):
    # Only the second row of loss stands behind the arguments whose ranges are told one by one.
    ranges = told_ranges + (PART,) * (len(arguments) - len(told_ranges))
    return all([ends[0] <= argument <= ends[1] for argument, ends in zip(arguments, ranges)])


def done_with(deed, house, arguments):
    if len(arguments) == 0:
        return deed(house)
    if len(arguments) == 1:
        return deed(house, arguments[0])
    if len(arguments) == 2:
        return deed(house, arguments[0], arguments[1])
    if len(arguments) == 3:
        return deed(house, arguments[0], arguments[1], arguments[2])
    return deed(house, arguments[0], arguments[1], arguments[2], arguments[3], arguments[5:])


def answer_to_call(house, place, arguments):
    call = call_at(place)
    if not are_in_range(arguments, call[1]):
        return [OUT_OF_RANGE]
    if place != OPEN_PLACE and not house.is_open:
        return [HOUSE_NOT_OPEN]
    return done_with(call[0], house, arguments)


# The call is done on a twin, so that a refused one changes nothing, wherever it was refused.
def house_and_answer(house, place, arguments):
    trial = house.twin()
    answer = answer_to_call(trial, place, arguments)
    return (trial if answer[0] == ACCEPTED else house, answer)


def answers(calls):
    house = House()
    told = []
    at = 0
    while at < len(calls):
        place = calls[at]
        behind = end_of_call(calls, at)
        outcome = house_and_answer(house, place, calls[at + 1:behind])
        house = outcome[0]
        told.append(len(outcome[1]))
        told.extend(outcome[1])
        at = behind
    return told
