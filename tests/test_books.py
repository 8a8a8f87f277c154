import unittest

from marketaccounts.accounts import rests_of_members, signed_accounts
from marketaccounts.house import House
from marketaccounts.reckoning import cents_of_total, tax_on_cents
from tests.helper import (BALANCE, BILL, BILL_ALL, CLOSE, DAY, DEPOSIT, FAIL, FAILURE, FUND, INVOICE, INVOICES, ITEM,
                          LEDGER, LOSS, MEMBER, OPEN, OVERDUE, PAY, PREVIEW, RECKON, RECOVER, REFUND, RELEASE, SHORT,
                          TAXES, TOTAL, ask_house, snapshot, step)

CHANGES = [MEMBER, DAY, ITEM, ITEM, ITEM, ITEM, BILL, BILL, BILL_ALL, BILL_ALL, BILL_ALL, PAY, REFUND, DEPOSIT, RELEASE,
           FUND, FAIL, FAIL, RECOVER, RECOVER]
# Closing comes rarely, so that there are periods left to tell items of.
PLACES = CHANGES * 2 + [CLOSE, TOTAL, INVOICE, INVOICES, BALANCE, SHORT, OVERDUE, LEDGER, TAXES, FAILURE, PREVIEW,
                        RECKON, LOSS]


class Dice:
    """The same throws every time, so that a failing run can be run again."""

    def __init__(self, seed):
        self.state = seed

    def throw(self, count):
        self.state = (self.state * 6364136223846793005 + 1442695040888963407) % 2 ** 64
        return (self.state >> 33) % count


def thrown_row(dice, house):
    place = PLACES[dice.throw(len(PLACES))]
    member = 1 + dice.throw(6)
    period = dice.throw(5)
    if place in (MEMBER, SHORT, OVERDUE, LEDGER):
        return (place,)
    if place == DAY:
        return (DAY, house.today + dice.throw(4))
    if place == ITEM:
        return (ITEM, member, period, dice.throw(60000) - 20000)
    if place in (BILL, TOTAL, PREVIEW):
        return (place, member, period)
    if place in (BILL_ALL, CLOSE, TAXES):
        return (place, period)
    if place in (FAIL, FAILURE, INVOICE, INVOICES, BALANCE):
        return (place, member)
    if place == RECKON:
        return (RECKON, dice.throw(60000) - 20000)
    if place == LOSS:
        return (LOSS, dice.throw(60), dice.throw(9), dice.throw(9), dice.throw(9), 2, dice.throw(9), dice.throw(9))
    return (place, member, 1 + dice.throw(12))


class NotAUnitIsLost(unittest.TestCase):
    def runs(self):
        for seed in range(40):
            dice = Dice(seed)
            house = step(House(), (OPEN, dice.throw(3), dice.throw(10001), dice.throw(30)))[0]
            for number in range(dice.throw(5)):
                house = step(house, (MEMBER,))[0]
            for time in range(300):
                row = thrown_row(dice, house)
                before = snapshot(house)
                after, answer = step(house, row)
                yield row, answer, house, before, after
                house = after

    def test_sum_of_all_accounts_stays_0(self):
        for row, answer, house, before, after in self.runs():
            self.assertEqual(sum(signed_accounts(after)), 0, row)
            self.assertEqual(ask_house(after, (LEDGER,))[-1], 0, row)

    def test_refused_or_asking_changes_nothing_and_accepted_leaves_the_earlier_house(self):
        for row, answer, house, before, after in self.runs():
            self.assertEqual(snapshot(house), before, row)
            if answer[0] != 0 or row[0] >= TOTAL:
                self.assertEqual(snapshot(after), before, row)
            if answer[0] != 0:
                self.assertEqual(len(answer), 1, row)

    def test_billed_is_the_rounded_total_that_was_seen(self):
        for row, answer, house, before, after in self.runs():
            if answer[0] == 0 and row[0] in (BILL, BILL_ALL):
                for pair in after.pairs.values():
                    self.assertEqual(pair.billed, cents_of_total(pair.seen))
                    self.assertEqual(pair.tax_billed, tax_on_cents(pair.billed, after.rate))

    def test_pool_is_left_only_behind_paid_invoices(self):
        for row, answer, house, before, after in self.runs():
            for member, rests in zip(after.members, rests_of_members(after)):
                self.assertTrue(member.pool >= 0 and rests >= 0 and (member.pool == 0 or rests == 0), row)

    def test_what_bears_is_never_below_0(self):
        for row, answer, house, before, after in self.runs():
            parts = [part for member in after.members for part in (member.collateral, member.fund_part)]
            self.assertTrue(min(parts + [after.house_part, after.loss, after.cash]) >= 0, row)

    def test_every_call_is_accepted_at_times(self):
        accepted = {row[0] for row, answer, house, before, after in self.runs() if answer[0] == 0}
        self.assertEqual(accepted, set(PLACES))


class SignedAccounts(unittest.TestCase):
    def test_each_with_its_sign(self):
        house = House()
        for row in ((OPEN, 5, 1000, 7), (MEMBER,), (MEMBER,), (DEPOSIT, 1, 11), (FUND, 1, 13), (ITEM, 1, 0, 20500),
                    (BILL, 1, 0), (ITEM, 1, 1, 300), (PAY, 1, 5), (PAY, 2, 17)):
            house = step(house, row)[0]
        house.loss = 2
        self.assertEqual(sorted(signed_accounts(house)), sorted([
            300, 17000, -11000, -13000, 0, -17000, 0, 0, -20800, 500, -2000, 53000, -7000, 2000]))


if __name__ == "__main__":
    unittest.main()
