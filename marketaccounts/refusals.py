"""The numbers that refuse a call, and the checks that several calls share."""

ACCEPTED = 0
OUT_OF_RANGE = -1
HOUSE_NOT_OPEN = -2
HOUSE_OPEN_ALREADY = -3
NO_ROOM = -4
NO_SUCH_MEMBER = -5
MEMBER_FAILED = -6
PERIOD_CLOSED = -7
BEYOND_LIMIT = -8
NOT_ENOUGH = -9
NOT_AFTER_TODAY = -10
NOT_RIPE = -11
NO_SUCH_FAILURE = -12
INVOICE_NOT_MADE = -13


def refusal_of_number(house, number):
    return ACCEPTED if number <= len(house.members) else NO_SUCH_MEMBER


def refusal_of_member(house, number):
    refusal = refusal_of_number(house, number)
    if refusal == ACCEPTED and house.members[number - 1].failed:
        return MEMBER_FAILED
    return refusal


def refusal_of_period(house, period):
    return PERIOD_CLOSED if period in house.closed else ACCEPTED


def refusal_of_pair(house, number, period):
    refusal = refusal_of_member(house, number)
    return refusal if refusal != ACCEPTED else refusal_of_period(house, period)
