"""The calls fail and recover: who bears what a failed member owes, and who gets it back."""

from marketaccounts.accounts import rests_of_member, unless_beyond_limit
from marketaccounts.house import Failure
from marketaccounts.reckoning import loss_borne, split_by_weights
from marketaccounts.refusals import ACCEPTED, NO_SUCH_FAILURE, NOT_RIPE
from marketaccounts.refusals import refusal_of_member, refusal_of_number


def has_overdue_invoice(house, number):
    overdue = [invoice for invoice in house.invoices if invoice.is_overdue(house.today)]
    return any([invoice.number_of_member == number for invoice in overdue])


def has_unseen_total(house, number):
    unseen = [key for key, pair in house.pairs.items() if not pair.is_all_seen()]
    return any([key[0] == number for key in unseen])


def without_rests_of(invoices, number):
    return [invoice.with_rest(0) if invoice.number_of_member == number else invoice for invoice in invoices]


def take_burden(house, number, burden):
    member = house.members[number - 1]
    member.collateral -= burden.by_collateral
    member.fund_part -= burden.by_fund_part
    house.house_part -= burden.by_house
    house.loss += burden.by_nobody
    for other, part in zip(house.members, burden.by_others):
        other.fund_part -= part


def fail(house, number):
    refusal = refusal_of_member(house, number)
    if refusal != ACCEPTED:
        return [refusal]
    if not has_overdue_invoice(house, number) or has_unseen_total(house, number):
        return [NOT_RIPE]
    loss = rests_of_member(house, number)
    house.invoices = without_rests_of(house.invoices, number)
    member = house.members[number - 1]
    # Failed from here on, so that it counts 0 among the others itself.
    member.failed = True
    other_fund_parts = [0 if other.failed else other.fund_part for other in house.members]
    burden = loss_borne(loss, member.collateral, member.fund_part, house.house_part, other_fund_parts)
    take_burden(house, number, burden)
    house.failures[number] = Failure(loss, burden, burden.by_nobody, burden.by_others, burden.by_house)
    return [ACCEPTED, loss] + burden.as_numbers()


def recover(house, number, cents):
    refusal = refusal_of_number(house, number)
    if refusal != ACCEPTED:
        return [refusal]
    failure = house.failures.get(number)
    if failure is None or failure.not_back_in_all() < cents:
        return [NO_SUCH_FAILURE]
    to_nobody = min(cents, failure.nobody_not_back)
    to_others = min(cents - to_nobody, sum(failure.others_not_back))
    to_house = cents - to_nobody - to_others
    shares = split_by_weights(to_others, failure.others_not_back)
    house.cash += cents
    house.loss -= to_nobody
    house.house_part += to_house
    # Members that came behind the failure have no share: the walk ends before them.
    for member, share in zip(house.members, shares):
        member.fund_part += share
    house.failures[number] = failure.with_recovery(to_nobody, shares, to_house)
    return unless_beyond_limit(house, [ACCEPTED, to_nobody, to_others, to_house] + shares)
