"""The calls that ask: they look into the house and change nothing."""

from marketaccounts.accounts import lack_of_member, need_of_member, rests_of_member, signed_accounts
from marketaccounts.billing import cents_to_bill, tax_to_bill
from marketaccounts.reckoning import cents_of_total, loss_borne, tax_on_cents
from marketaccounts.refusals import ACCEPTED, INVOICE_NOT_MADE, NO_SUCH_FAILURE, refusal_of_number


def ask_total(house, number, period):
    refusal = refusal_of_number(house, number)
    if refusal != ACCEPTED:
        return [refusal]
    pair = house.pair_of(number, period)
    return [ACCEPTED, pair.total, pair.seen, pair.billed, pair.tax_billed]


def ask_invoice(house, number):
    if number > len(house.invoices):
        return [INVOICE_NOT_MADE]
    invoice = house.invoices[number - 1]
    answer = [ACCEPTED, invoice.number_of_member, invoice.period, invoice.cents, invoice.tax]
    return answer + [invoice.due_day, invoice.rest]


def answer_of_rows(rows):
    answer = [ACCEPTED, len(rows)]
    for row in rows:
        answer.extend(row)
    return answer


def ask_invoices(house, member_number):
    refusal = refusal_of_number(house, member_number)
    if refusal != ACCEPTED:
        return [refusal]
    rows = []
    for number, invoice in enumerate(house.invoices, start=1):
        if invoice.number_of_member == member_number and invoice.rest > 0:
            rows.append([number, invoice.due_day, invoice.rest])
    return answer_of_rows(rows)


def ask_balance(house, number):
    refusal = refusal_of_number(house, number)
    if refusal != ACCEPTED:
        return [refusal]
    member = house.members[number - 1]
    answer = [ACCEPTED, member.unbilled, rests_of_member(house, number), member.pool, member.collateral]
    return answer + [member.fund_part, 1 if member.failed else 0, need_of_member(house, number)]


def ask_short(house):
    rows = []
    for number, member in enumerate(house.members, start=1):
        lack = lack_of_member(house, number)
        if not member.failed and lack > 0:
            rows.append([number, lack])
    return answer_of_rows(rows)


def ask_overdue(house):
    rows = []
    for number, invoice in enumerate(house.invoices, start=1):
        if invoice.is_overdue(house.today):
            rows.append([number, invoice.number_of_member, invoice.rest])
    return answer_of_rows(rows)


def ask_ledger(house):
    own_accounts = [house.market, house.rounding, house.taxes, house.cash, house.house_part, house.loss]
    return [ACCEPTED] + own_accounts + [sum(signed_accounts(house))]


def ask_taxes(house, period):
    return [ACCEPTED, sum([pair.tax_billed for key, pair in house.pairs.items() if key[1] == period])]


def ask_failure(house, number):
    failure = house.failures.get(number)
    if failure is None:
        return [NO_SUCH_FAILURE]
    burden = failure.burden
    borne = [burden.by_collateral, burden.by_fund_part, burden.by_house, burden.by_nobody]
    not_back = [failure.house_not_back, failure.nobody_not_back] + failure.others_not_back
    return [ACCEPTED, failure.loss] + borne + not_back


def ask_preview(house, number, period):
    refusal = refusal_of_number(house, number)
    if refusal != ACCEPTED:
        return [refusal]
    pair = house.pair_of(number, period)
    return [ACCEPTED, cents_to_bill(pair), tax_to_bill(pair, house.rate)]


def ask_reckon(house, total):
    cents = cents_of_total(total)
    return [ACCEPTED, cents, tax_on_cents(cents, house.rate)]


# The house is handed to every call; this one is reckoned from its own numbers alone.
def ask_loss(house, loss, collateral, fund_part, house_part, other_fund_parts):
    return [ACCEPTED] + loss_borne(loss, collateral, fund_part, house_part, other_fund_parts).as_numbers()
