import unittest

from tests.helper import (BILL, DAY, DEPOSIT, E15, E18, FUND, ITEM, MEMBER, OPEN, PAY, REFUND, RELEASE, ask_behind,
                          ask_house, house_behind, snapshot, step)

TWO_MEMBERS = [(OPEN, 5, 0, 0), (MEMBER,), (MEMBER,)]
# Member 1 gets a pool of 1000 cents that no cash came in for.
WITH_CREDIT = TWO_MEMBERS + [(ITEM, 1, 0, -1000000), (BILL, 1, 0)]


class Pay(unittest.TestCase):
    def setUp(self):
        self.rows = TWO_MEMBERS + [(ITEM, 1, 0, 10000), (BILL, 1, 0), (ITEM, 2, 0, 7000), (BILL, 2, 0),
                                   (ITEM, 1, 1, 20000), (BILL, 1, 1)]

    def test_rests_then_pool(self):
        asked = [(PAY, 1, 4), (PAY, 1, 10), (PAY, 1, 16), (PAY, 1, 1), (PAY, 2, 9)]
        self.assertEqual(ask_behind(self.rows, asked), [[0, 26, 0], [0, 16, 0], [0, 0, 0], [0, 0, 1], [0, 0, 2]])

    def test_oldest_invoice_first(self):
        house = house_behind(self.rows + [(PAY, 1, 12)])
        self.assertEqual([invoice.rest for invoice in house.invoices], [0, 7, 18])
        self.assertEqual((house.cash, house.members[0].pool), (12, 0))

    def test_more_than_is_owed(self):
        house = house_behind(self.rows + [(PAY, 1, 33)])
        self.assertEqual([invoice.rest for invoice in house.invoices], [0, 7, 0])
        self.assertEqual((house.cash, house.members[0].pool), (33, 3))

    def test_cash_at_the_limit(self):
        self.assertEqual(ask_behind(TWO_MEMBERS, [(PAY, 1, E15), (PAY, 1, 1), (PAY, 2, 1)]),
                         [[0, 0, E15], [-8], [-8]])

    def test_pool_alone_beyond_the_limit(self):
        asked = [(PAY, 1, E15 - 999), (PAY, 1, E15 - 1000), (PAY, 1, 1), (PAY, 2, 1)]
        self.assertEqual(ask_behind(WITH_CREDIT, asked), [[-8], [0, 0, E15], [-8], [0, 0, 1]])


class Refund(unittest.TestCase):
    def test_out_of_the_pool(self):
        rows = TWO_MEMBERS + [(PAY, 1, 30), (DEPOSIT, 2, 50)]
        asked = [(REFUND, 1, 31), (REFUND, 1, 10), (REFUND, 1, 20), (REFUND, 1, 1), (REFUND, 2, 1)]
        self.assertEqual(ask_behind(rows, asked), [[-9], [0, 20], [0, 0], [-9], [-9]])

    def test_no_more_than_the_cash(self):
        rows = WITH_CREDIT + [(DEPOSIT, 2, 50)]
        self.assertEqual(ask_behind(rows, [(REFUND, 1, 51), (REFUND, 1, 50), (REFUND, 1, 1)]),
                         [[-9], [0, 950], [-9]])

    def test_cash_is_less(self):
        house = house_behind(TWO_MEMBERS + [(PAY, 1, 30), (REFUND, 1, 12)])
        self.assertEqual((house.cash, house.members[0].pool), (18, 18))

    def test_not_refused_beyond_the_limit(self):
        house = house_behind(TWO_MEMBERS + [(PAY, 1, 30), (DEPOSIT, 1, 5)])
        house.loss = E15 + 1
        self.assertEqual(ask_house(house, (REFUND, 1, 10)), [0, 20])
        self.assertEqual(ask_house(house, (RELEASE, 1, 5)), [0, 0])


class Deposit(unittest.TestCase):
    def test_collateral_grows(self):
        self.assertEqual(ask_behind(TWO_MEMBERS, [(DEPOSIT, 1, 5), (DEPOSIT, 2, 7), (DEPOSIT, 1, 1)]),
                         [[0, 5], [0, 7], [0, 6]])

    def test_cash_grows_and_invoices_stay(self):
        house = house_behind(TWO_MEMBERS + [(ITEM, 1, 0, 9000), (BILL, 1, 0), (DEPOSIT, 1, 5)])
        self.assertEqual((house.cash, house.members[0].pool, house.invoices[0].rest), (5, 0, 9))

    def test_cash_at_the_limit(self):
        self.assertEqual(ask_behind(TWO_MEMBERS, [(DEPOSIT, 1, E15), (DEPOSIT, 1, 1), (DEPOSIT, 2, 1)]),
                         [[0, E15], [-8], [-8]])

    def test_collateral_alone_beyond_the_limit(self):
        rows = WITH_CREDIT + [(DEPOSIT, 2, E15), (REFUND, 1, 1)]
        self.assertEqual(ask_behind(rows, [(DEPOSIT, 2, 1), (DEPOSIT, 1, 1)]), [[-8], [0, 1]])


class Release(unittest.TestCase):
    def test_no_more_than_the_collateral(self):
        rows = TWO_MEMBERS + [(DEPOSIT, 1, 5), (DEPOSIT, 2, 50)]
        self.assertEqual(ask_behind(rows, [(RELEASE, 1, 6), (RELEASE, 1, 2), (RELEASE, 1, 3), (RELEASE, 1, 1)]),
                         [[-9], [0, 3], [0, 0], [-9]])

    def test_need_is_rounded_up_to_cents(self):
        rows = TWO_MEMBERS + [(DEPOSIT, 1, 50), (ITEM, 1, 0, 20001)]
        self.assertEqual(ask_behind(rows, [(RELEASE, 1, 30), (RELEASE, 1, 29), (RELEASE, 1, 1)]),
                         [[-9], [0, 21], [-9]])

    def test_need_counts_unbilled_and_rests(self):
        rows = TWO_MEMBERS + [(DEPOSIT, 1, 50), (ITEM, 1, 0, 20000), (BILL, 1, 0), (ITEM, 1, 1, 10000), (PAY, 1, 5)]
        self.assertEqual(ask_behind(rows, [(RELEASE, 1, 26), (RELEASE, 1, 25)]), [[-9], [0, 25]])

    def test_need_is_less_by_the_pool(self):
        rows = TWO_MEMBERS + [(DEPOSIT, 1, 50), (ITEM, 1, 0, 20000), (PAY, 1, 15)]
        self.assertEqual(ask_behind(rows, [(RELEASE, 1, 46), (RELEASE, 1, 45)]), [[-9], [0, 5]])

    def test_need_below_0_is_0(self):
        rows = TWO_MEMBERS + [(DEPOSIT, 1, 50), (DEPOSIT, 2, 50), (ITEM, 1, 0, -20000)]
        self.assertEqual(ask_behind(rows, [(RELEASE, 1, 51), (RELEASE, 1, 50)]), [[-9], [0, 0]])

    def test_need_of_others_does_not_count(self):
        rows = TWO_MEMBERS + [(DEPOSIT, 1, 50), (ITEM, 2, 0, 20000), (BILL, 2, 0), (ITEM, 2, 1, 20000)]
        self.assertEqual(ask_behind(rows, [(RELEASE, 1, 50)]), [[0, 0]])

    def test_no_more_than_the_cash(self):
        rows = WITH_CREDIT + [(DEPOSIT, 2, 50), (REFUND, 1, 20)]
        self.assertEqual(ask_behind(rows, [(RELEASE, 2, 31), (RELEASE, 2, 30), (RELEASE, 2, 1)]),
                         [[-9], [0, 20], [-9]])

    def test_cash_is_less(self):
        house = house_behind(TWO_MEMBERS + [(DEPOSIT, 1, 30), (RELEASE, 1, 12)])
        self.assertEqual((house.cash, house.members[0].collateral), (18, 18))


class Fund(unittest.TestCase):
    def test_fund_part_grows(self):
        self.assertEqual(ask_behind(TWO_MEMBERS, [(FUND, 1, 5), (FUND, 2, 7), (FUND, 1, 1)]), [[0, 5], [0, 7], [0, 6]])

    def test_cash_grows(self):
        house = house_behind(TWO_MEMBERS + [(FUND, 1, 5), (FUND, 2, 7)])
        self.assertEqual((house.cash, house.house_part, house.members[0].collateral), (12, 0, 0))

    def test_cash_at_the_limit(self):
        self.assertEqual(ask_behind(TWO_MEMBERS, [(FUND, 1, E15), (FUND, 1, 1), (FUND, 2, 1)]), [[0, E15], [-8], [-8]])

    def test_fund_part_alone_beyond_the_limit(self):
        rows = WITH_CREDIT + [(FUND, 2, E15), (REFUND, 1, 1)]
        self.assertEqual(ask_behind(rows, [(FUND, 2, 1), (FUND, 1, 1)]), [[-8], [0, 1]])


class RefusedChangesNothing(unittest.TestCase):
    def test_beyond_the_limit(self):
        house = house_behind(WITH_CREDIT + [(ITEM, 1, 1, 3000), (BILL, 1, 1), (PAY, 2, E15)])
        before = snapshot(house)
        for place in (PAY, DEPOSIT, FUND):
            self.assertEqual(step(house, (place, 1, 1)), (house, [-8]))
            self.assertEqual(snapshot(house), before)

    def test_too_much_taken(self):
        house = house_behind(WITH_CREDIT + [(DEPOSIT, 1, 3), (DAY, 1)])
        before = snapshot(house)
        for row in ((REFUND, 1, 1001), (REFUND, 1, 4), (RELEASE, 1, 4), (PAY, 1, E18), (PAY, 3, 1)):
            after, answer = step(house, row)
            self.assertTrue(answer[0] < 0)
            self.assertEqual(snapshot(after), before)


if __name__ == "__main__":
    unittest.main()
