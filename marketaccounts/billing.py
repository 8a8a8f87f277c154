"""The calls bill, billAll and close, and how money is put on a member's invoices."""

from marketaccounts.accounts import unless_beyond_limit
from marketaccounts.house import Invoice
from marketaccounts.reckoning import UNITS_OF_A_CENT, cents_of_total, tax_on_cents
from marketaccounts.refusals import ACCEPTED, NO_ROOM, NOT_RIPE, refusal_of_pair, refusal_of_period

MOST_INVOICES = 256
MOST_CLOSED_PERIODS = 256


def put_on_invoices(house, number, money):
    left = money
    invoices = []
    for invoice in house.invoices:
        taken = min(invoice.rest, left) if invoice.number_of_member == number else 0
        left -= taken
        invoices.append(invoice.with_rest(invoice.rest - taken) if taken > 0 else invoice)
    house.invoices = invoices
    house.members[number - 1].pool += left


def make_invoice(house, number, period, cents, tax):
    owed = cents + tax
    due_day = house.today + house.terms
    house.invoices.append(Invoice(number, period, cents, tax, due_day, max(0, owed)))
    if owed < 0:
        put_on_invoices(house, number, -owed)
    else:
        member = house.members[number - 1]
        money = member.pool
        member.pool = 0
        put_on_invoices(house, number, money)


def cents_to_bill(pair):
    return cents_of_total(pair.total) - pair.billed


def tax_to_bill(pair, rate):
    return tax_on_cents(cents_of_total(pair.total), rate) - pair.tax_billed


def bill_pair(house, number, period):
    pair = house.pairs[(number, period)]
    cents = cents_to_bill(pair)
    tax = tax_to_bill(pair, house.rate)
    unseen = pair.total - pair.seen
    house.members[number - 1].unbilled -= unseen
    house.rounding += unseen - UNITS_OF_A_CENT * cents
    house.taxes -= tax
    house.pairs[(number, period)] = pair.with_bill(cents, tax)
    if cents + tax != 0:
        make_invoice(house, number, period, cents, tax)


# Refuses behind the bills: the desk drops a house whose call was refused.
def answer_of_bills(house, invoices_before):
    if len(house.invoices) > MOST_INVOICES:
        return [NO_ROOM]
    made = house.invoices[invoices_before:]
    answer = [ACCEPTED, len(made)]
    for number, invoice in enumerate(made, start=invoices_before + 1):
        answer.extend([number, invoice.number_of_member, invoice.cents, invoice.tax])
    return unless_beyond_limit(house, answer)


def bill(house, number, period):
    refusal = refusal_of_pair(house, number, period)
    if refusal != ACCEPTED:
        return [refusal]
    invoices_before = len(house.invoices)
    if (number, period) in house.pairs:
        bill_pair(house, number, period)
    return answer_of_bills(house, invoices_before)


def is_to_be_billed(house, number, period):
    return not house.members[number - 1].failed and not house.pair_of(number, period).is_all_seen()


def numbers_to_bill(house, period):
    return [number for number in range(1, len(house.members) + 1) if is_to_be_billed(house, number, period)]


def bill_all(house, period):
    refusal = refusal_of_period(house, period)
    if refusal != ACCEPTED:
        return [refusal]
    invoices_before = len(house.invoices)
    for number in numbers_to_bill(house, period):
        bill_pair(house, number, period)
    return answer_of_bills(house, invoices_before)


def close_period(house, period):
    refusal = refusal_of_period(house, period)
    if refusal != ACCEPTED:
        return [refusal]
    if len(numbers_to_bill(house, period)) > 0:
        return [NOT_RIPE]
    if len(house.closed) == MOST_CLOSED_PERIODS:
        return [NO_ROOM]
    house.closed[period] = True
    return [ACCEPTED]
