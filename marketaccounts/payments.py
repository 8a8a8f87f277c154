"""The calls pay, refund, deposit, release and fund: money that comes in and goes out."""

from marketaccounts.accounts import need_of_member, rests_of_member, unless_beyond_limit
from marketaccounts.billing import put_on_invoices
from marketaccounts.reckoning import UNITS_OF_A_CENT
from marketaccounts.refusals import ACCEPTED, NOT_ENOUGH, refusal_of_member


def pay(house, number, cents):
    refusal = refusal_of_member(house, number)
    if refusal != ACCEPTED:
        return [refusal]
    house.cash += cents
    put_on_invoices(house, number, cents)
    answer = [ACCEPTED, rests_of_member(house, number), house.members[number - 1].pool]
    return unless_beyond_limit(house, answer)


def refund(house, number, cents):
    refusal = refusal_of_member(house, number)
    if refusal != ACCEPTED:
        return [refusal]
    member = house.members[number - 1]
    if member.pool < cents or house.cash < cents:
        return [NOT_ENOUGH]
    member.pool -= cents
    house.cash -= cents
    return [ACCEPTED, member.pool]


def deposit(house, number, cents):
    refusal = refusal_of_member(house, number)
    if refusal != ACCEPTED:
        return [refusal]
    member = house.members[number - 1]
    house.cash += cents
    member.collateral += cents
    return unless_beyond_limit(house, [ACCEPTED, member.collateral])


def release(house, number, cents):
    refusal = refusal_of_member(house, number)
    if refusal != ACCEPTED:
        return [refusal]
    member = house.members[number - 1]
    kept = member.collateral - cents
    if kept < 0 or UNITS_OF_A_CENT * kept < need_of_member(house, number) or house.cash < cents:
        return [NOT_ENOUGH]
    member.collateral = kept
    house.cash -= cents
    return [ACCEPTED, kept]


def fund(house, number, cents):
    refusal = refusal_of_member(house, number)
    if refusal != ACCEPTED:
        return [refusal]
    member = house.members[number - 1]
    house.cash += cents
    member.fund_part += cents
    return unless_beyond_limit(house, [ACCEPTED, member.fund_part])
