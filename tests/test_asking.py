import unittest

from tests.helper import (BALANCE, BILL, BILL_ALL, CLOSE, DAY, DEPOSIT, E15, E18, FAIL, FAILURE, FUND, INVOICE,
                          INVOICES, ITEM, LEDGER, LOSS, MEMBER, OPEN, OVERDUE, PAY, PREVIEW, RECKON, RECOVER, REFUND,
                          SHORT, TAXES, TOTAL, ask, ask_behind, ask_house, house_behind)


def opened(count, terms=5, rate=1000, house_part=0):
    return [(OPEN, terms, rate, house_part)] + [(MEMBER,)] * count


def owing(number, cents, period=0):
    return [(ITEM, number, period, 1000 * cents), (BILL, number, period)]


FAILED = opened(1, rate=0) + owing(1, 7) + [(DAY, 6), (FAIL, 1)]


class Total(unittest.TestCase):
    def test_without_items(self):
        self.assertEqual(ask_behind(opened(1), [(TOTAL, 1, 0), (TOTAL, 1, 9999)]), [[0, 0, 0, 0, 0]] * 2)

    def test_before_and_behind_a_bill(self):
        rows = opened(2) + [(ITEM, 2, 7, 123999)]
        asked = [(TOTAL, 2, 7), (BILL, 2, 7), (TOTAL, 2, 7), (ITEM, 2, 7, -200000), (TOTAL, 2, 7), (BILL, 2, 7),
                 (TOTAL, 2, 7), (TOTAL, 1, 7), (TOTAL, 2, 8)]
        self.assertEqual(ask_behind(rows, asked)[::2], [
            [0, 123999, 0, 0, 0], [0, 123999, 123999, 123, 12], [0, -76001, 123999, 123, 12],
            [0, -76001, -76001, -77, -8], [0, 0, 0, 0, 0]])

    def test_no_such_member(self):
        self.assertEqual(ask_behind(opened(1), [(TOTAL, 2, 0), (TOTAL, 16, 0), (TOTAL, 17, 0)]), [[-5], [-5], [-1]])

    def test_failed_member_is_told(self):
        self.assertEqual(ask_behind(FAILED, [(TOTAL, 1, 0)]), [[0, 7000, 7000, 7, 0]])


class AnInvoice(unittest.TestCase):
    def test_above_and_below_0(self):
        rows = opened(2) + [(DAY, 4), (ITEM, 2, 7, 123999), (BILL, 2, 7), (PAY, 2, 5), (ITEM, 1, 8, -30500)]
        rows += [(BILL, 1, 8)]
        self.assertEqual(ask_behind(rows, [(INVOICE, 1), (INVOICE, 2)]), [[0, 2, 7, 123, 12, 9, 130],
                                                                       [0, 1, 8, -31, -3, 9, 0]])

    def test_not_made(self):
        rows = opened(1) + owing(1, 7)
        self.assertEqual(ask_behind(rows, [(INVOICE, 1), (INVOICE, 2), (INVOICE, 256), (INVOICE, 257), (INVOICE, 0)]),
                         [[0, 1, 0, 7, 1, 5, 8], [-13], [-13], [-1], [-1]])
        self.assertEqual(ask_behind(opened(1), [(INVOICE, 1)]), [[-13]])

    def test_256th(self):
        rows = opened(16, rate=0) + [(ITEM, member, period, 9000) for period in range(16) for member in range(1, 17)]
        rows += [(BILL_ALL, period) for period in range(16)]
        self.assertEqual(ask_behind(rows, [(INVOICE, 256), (INVOICE, 1)]),
                         [[0, 16, 15, 9, 0, 5, 9], [0, 1, 0, 9, 0, 5, 9]])

    def test_failed_members_rest_is_0(self):
        self.assertEqual(ask_behind(FAILED, [(INVOICE, 1)]), [[0, 1, 0, 7, 0, 5, 0]])


class InvoicesOfAMember(unittest.TestCase):
    def setUp(self):
        self.rows = opened(2, rate=0) + owing(1, 10) + owing(2, 7) + [(DAY, 3)] + owing(1, 20, 1) + owing(1, 5, 2)

    def test_those_with_a_rest(self):
        asked = [(INVOICES, 1), (INVOICES, 2), (PAY, 1, 14), (INVOICES, 1), (PAY, 1, 21), (INVOICES, 1), (INVOICES, 2)]
        self.assertEqual(ask_behind(self.rows, asked), [
            [0, 3, 1, 5, 10, 3, 8, 20, 4, 8, 5], [0, 1, 2, 5, 7], [0, 21, 0], [0, 2, 3, 8, 16, 4, 8, 5], [0, 0, 0],
            [0, 0], [0, 1, 2, 5, 7]])

    def test_credit_has_no_rest(self):
        self.assertEqual(ask_behind(opened(1) + owing(1, -7), [(INVOICES, 1)]), [[0, 0]])

    def test_no_such_member(self):
        self.assertEqual(ask_behind(self.rows, [(INVOICES, 3), (INVOICES, 16)]), [[-5], [-5]])

    def test_failed_member_has_none(self):
        self.assertEqual(ask_behind(FAILED, [(INVOICES, 1)]), [[0, 0]])


class Balance(unittest.TestCase):
    def test_new_member(self):
        self.assertEqual(ask_behind(opened(1), [(BALANCE, 1)]), [[0, 0, 0, 0, 0, 0, 0, 0]])

    def test_each_of_the_seven(self):
        rows = opened(2) + owing(1, 20) + [(ITEM, 1, 1, 1234), (PAY, 1, 2), (DEPOSIT, 1, 11), (FUND, 1, 13),
                                           (PAY, 2, 17), (ITEM, 2, 1, 17001)]
        self.assertEqual(ask_behind(rows, [(BALANCE, 1), (BALANCE, 2)]), [[0, 1234, 20, 0, 11, 13, 0, 21234],
                                                                       [0, 17001, 0, 17, 0, 0, 0, 1]])

    def test_need_below_0_is_0(self):
        rows = opened(1) + [(PAY, 1, 17), (ITEM, 1, 1, 17000)]
        self.assertEqual(ask_behind(rows, [(BALANCE, 1), (ITEM, 1, 1, -17001), (BALANCE, 1)]),
                         [[0, 17000, 0, 17, 0, 0, 0, 0], [0, -1], [0, -1, 0, 17, 0, 0, 0, 0]])

    def test_failed_member(self):
        rows = opened(1, rate=0) + [(DEPOSIT, 1, 9), (FUND, 1, 4)] + owing(1, 7) + [(DAY, 6), (FAIL, 1)]
        self.assertEqual(ask_behind(rows, [(BALANCE, 1)]), [[0, 0, 0, 0, 2, 4, 1, 0]])

    def test_no_such_member(self):
        self.assertEqual(ask_behind(opened(3), [(BALANCE, 4), (BALANCE, 16)]), [[-5], [-5]])


class Short(unittest.TestCase):
    def test_nobody(self):
        self.assertEqual(ask_behind(opened(0), [(SHORT,)]), [[0, 0]])
        self.assertEqual(ask_behind(opened(3), [(SHORT,)]), [[0, 0]])

    def test_lack_is_rounded_up_to_cents(self):
        found = [ask_behind(opened(1) + [(DEPOSIT, 1, 3), (ITEM, 1, 0, units)], [(SHORT,)])[0]
                 for units in (3000, 3001, 4000, 4001, 0, -5000)]
        self.assertEqual(found, [[0, 0], [0, 1, 1, 1], [0, 1, 1, 1], [0, 1, 1, 2], [0, 0], [0, 0]])

    def test_in_order_of_number(self):
        rows = opened(4, rate=0) + [(ITEM, 4, 0, 1)] + owing(2, 20) + [(ITEM, 2, 1, -500), (DEPOSIT, 2, 5),
                                                                   (DEPOSIT, 3, 1), (PAY, 1, 10), (ITEM, 1, 1, 12000)]
        self.assertEqual(ask_behind(rows, [(SHORT,)]), [[0, 3, 1, 2, 2, 15, 4, 1]])

    def test_failed_one_is_left_out(self):
        rows = opened(2, rate=0) + owing(1, 20) + owing(2, 5) + [(DAY, 6)]
        self.assertEqual(ask_behind(rows, [(SHORT,), (FAIL, 1), (SHORT,)])[::2], [[0, 2, 1, 20, 2, 5], [0, 1, 2, 5]])
        house = house_behind(rows + [(FAIL, 1)])
        house.members[0].unbilled = 9000
        self.assertEqual(ask_house(house, (SHORT,)), [0, 1, 2, 5])


class Overdue(unittest.TestCase):
    def test_day_by_day(self):
        rows = opened(2, rate=0) + owing(2, 10) + [(DAY, 1)] + owing(1, 7) + owing(2, -3, 1)
        asked = [(OVERDUE,), (DAY, 5), (OVERDUE,), (DAY, 6), (OVERDUE,), (DAY, 7), (OVERDUE,), (PAY, 2, 7), (OVERDUE,),
                 (FAIL, 1), (OVERDUE,)]
        self.assertEqual(ask_behind(rows, asked)[::2], [
            [0, 0], [0, 0], [0, 1, 1, 2, 7], [0, 2, 1, 2, 7, 2, 1, 7], [0, 1, 2, 1, 7], [0, 0]])

    def test_terms_of_0(self):
        rows = opened(1, terms=0, rate=0) + owing(1, 1)
        self.assertEqual(ask_behind(rows, [(OVERDUE,), (DAY, 1), (OVERDUE,)])[::2], [[0, 0], [0, 1, 1, 1, 1]])


class Ledger(unittest.TestCase):
    def test_new_house(self):
        self.assertEqual(ask_behind(opened(0, house_part=50), [(LEDGER,)]), [[0, 0, 0, 0, 50, 50, 0, 0]])

    def test_behind_each_call_that_changes(self):
        rows = opened(2, house_part=7)
        steps = [((ITEM, 1, 0, 20500), [-20500, 0, 0, 7, 7, 0]), ((BILL, 1, 0), [-20500, 500, -2, 7, 7, 0]),
                 ((ITEM, 2, 0, -3300), [-17200, 500, -2, 7, 7, 0]), ((BILL_ALL, 0), [-17200, 1200, -2, 7, 7, 0]),
                 ((PAY, 1, 2), [-17200, 1200, -2, 9, 7, 0]), ((REFUND, 2, 1), [-17200, 1200, -2, 8, 7, 0]),
                 ((DEPOSIT, 1, 4), [-17200, 1200, -2, 12, 7, 0]), ((FUND, 2, 3), [-17200, 1200, -2, 15, 7, 0]),
                 ((CLOSE, 0), [-17200, 1200, -2, 15, 7, 0]), ((DAY, 6), [-17200, 1200, -2, 15, 7, 0]),
                 ((FAIL, 1), [-17200, 1200, -2, 15, 0, 6]), ((RECOVER, 1, 10), [-17200, 1200, -2, 25, 1, 0])]
        for row, accounts in steps:
            rows.append(row)
            with self.subTest(row=row):
                self.assertEqual(ask_behind(rows, [(LEDGER,)]), [[0] + accounts + [0]])

    def test_sum_has_every_account_with_its_sign(self):
        of_house = [("market", 1), ("rounding", 1), ("taxes", 1000), ("cash", 1000), ("house_part", -1000),
                    ("loss", 1000)]
        for name, units in of_house:
            house = house_behind(opened(1) + owing(1, 3))
            vars(house)[name] += 1
            self.assertEqual(ask_house(house, (LEDGER,))[-1], units, name)
        for name, units in [("unbilled", 1), ("pool", -1000), ("collateral", -1000), ("fund_part", -1000)]:
            house = house_behind(opened(2) + owing(1, 3))
            vars(house.members[1])[name] += 1
            self.assertEqual(ask_house(house, (LEDGER,))[-1], units, name)
        house = house_behind(opened(1) + owing(1, 3))
        house.invoices[0] = house.invoices[0].with_rest(house.invoices[0].rest + 1)
        self.assertEqual(ask_house(house, (LEDGER,))[-1], 1000)


class TaxesOfAPeriod(unittest.TestCase):
    def test_all_members_of_the_period(self):
        rows = opened(3) + owing(1, 70, 7) + owing(2, -30, 7) + owing(3, 11, 7) + owing(1, 900, 8)
        self.assertEqual(ask_behind(rows, [(TAXES, 7), (TAXES, 8), (TAXES, 9), (TAXES, 0)]),
                         [[0, 5], [0, 90], [0, 0], [0, 0]])

    def test_items_not_billed_do_not_count(self):
        rows = opened(1) + owing(1, 70, 7) + [(ITEM, 1, 7, 50000)]
        asked = [(TAXES, 7), (BILL, 1, 7), (TAXES, 7), (ITEM, 1, 7, -200000), (TAXES, 7), (BILL_ALL, 7), (TAXES, 7)]
        self.assertEqual(ask_behind(rows, asked)[::2], [[0, 7], [0, 12], [0, 12], [0, -8]])

    def test_failed_and_closed_count(self):
        rows = opened(1) + owing(1, 70, 7) + [(DAY, 6), (FAIL, 1), (CLOSE, 7)]
        self.assertEqual(ask_behind(rows, [(TAXES, 7)]), [[0, 7]])


class AFailure(unittest.TestCase):
    def setUp(self):
        # Nobody bears 4, the others 3 and 7, the house 20, the collateral 5, the own fund part 6.
        self.rows = opened(3, rate=0, house_part=20) + [(DEPOSIT, 1, 5), (FUND, 1, 6), (FUND, 2, 3), (FUND, 3, 7)]
        self.rows += owing(1, 45) + [(DAY, 6), (FAIL, 1)]

    def test_at_once(self):
        self.assertEqual(ask_behind(self.rows, [(FAILURE, 1)]), [[0, 45, 5, 6, 20, 4, 20, 4, 0, 3, 7]])

    def test_less_is_not_back_behind_each_recovery(self):
        asked = [(RECOVER, 1, 3), (FAILURE, 1), (RECOVER, 1, 6), (FAILURE, 1), (RECOVER, 1, 8), (FAILURE, 1),
                 (RECOVER, 1, 17), (FAILURE, 1)]
        self.assertEqual(ask_behind(self.rows, asked)[1::2], [
            [0, 45, 5, 6, 20, 4, 20, 1, 0, 3, 7], [0, 45, 5, 6, 20, 4, 20, 0, 0, 1, 4],
            [0, 45, 5, 6, 20, 4, 17, 0, 0, 0, 0], [0, 45, 5, 6, 20, 4, 0, 0, 0, 0, 0]])

    def test_members_of_the_failure_alone(self):
        rows = self.rows + [(MEMBER,), (FUND, 4, 100)]
        self.assertEqual(ask_behind(rows, [(FAILURE, 1)]), [[0, 45, 5, 6, 20, 4, 20, 4, 0, 3, 7]])

    def test_each_failure_has_its_own(self):
        rows = self.rows + [(MEMBER,), (FUND, 3, 2)] + owing(2, 9, 1) + [(DAY, 12), (FAIL, 2), (RECOVER, 1, 4)]
        self.assertEqual(ask_behind(rows, [(FAILURE, 1), (FAILURE, 2)]), [[0, 45, 5, 6, 20, 4, 20, 0, 0, 3, 7],
                                                                       [0, 9, 0, 0, 0, 7, 0, 7, 0, 0, 2, 0]])

    def test_not_failed_or_not_there(self):
        self.assertEqual(ask_behind(self.rows, [(FAILURE, 2), (FAILURE, 4), (FAILURE, 16), (FAILURE, 17)]),
                         [[-12], [-12], [-12], [-1]])


class Preview(unittest.TestCase):
    def test_what_a_bill_would_have(self):
        rows = opened(1) + [(ITEM, 1, 7, 123999)]
        asked = [(PREVIEW, 1, 7), (BILL, 1, 7), (PREVIEW, 1, 7), (ITEM, 1, 7, -200000), (PREVIEW, 1, 7), (BILL, 1, 7),
                 (PREVIEW, 1, 7), (PREVIEW, 1, 8)]
        self.assertEqual(ask_behind(rows, asked), [
            [0, 123, 12], [0, 1, 1, 1, 123, 12], [0, 0, 0], [0, -76001], [0, -200, -20], [0, 1, 2, 1, -200, -20],
            [0, 0, 0], [0, 0, 0]])

    def test_whether_it_would_be_let_or_not(self):
        self.assertEqual(ask_behind(FAILED + [(CLOSE, 0)], [(PREVIEW, 1, 0), (PREVIEW, 1, 5)]), [[0, 0, 0]] * 2)
        rows = opened(16, rate=0) + [(ITEM, member, period, 9000) for period in range(16) for member in range(1, 17)]
        rows += [(BILL_ALL, period) for period in range(16)] + [(ITEM, 3, 0, 2500)]
        self.assertEqual(ask_behind(rows, [(BILL, 3, 0), (PREVIEW, 3, 0)]), [[-4], [0, 2, 0]])
        rows = opened(1, rate=0) + [(PAY, 1, E15), (ITEM, 1, 0, -1000)]
        self.assertEqual(ask_behind(rows, [(BILL, 1, 0), (PREVIEW, 1, 0)]), [[-8], [0, -1, 0]])

    def test_no_such_member(self):
        self.assertEqual(ask_behind(opened(1), [(PREVIEW, 2, 7), (PREVIEW, 16, 7)]), [[-5], [-5]])


class Reckon(unittest.TestCase):
    def test_cents_and_tax(self):
        totals = [0, 999, 1000, 4999, 5000, 14999, 15000, -1, -1000, -5000, -5001, -15000]
        expected = [(0, 0), (0, 0), (1, 0), (4, 0), (5, 1), (14, 1), (15, 2), (-1, 0), (-1, 0), (-5, 0), (-6, -1),
                    (-15, -1)]
        self.assertEqual(ask_behind(opened(0), [(RECKON, total) for total in totals]),
                         [[0, cents, tax] for cents, tax in expected])

    def test_ends_of_the_range(self):
        self.assertEqual(ask_behind(opened(0, rate=10000), [(RECKON, E18), (RECKON, -E18), (RECKON, 1 - E18)]),
                         [[0, E15, E15], [0, -E15, -E15], [0, -E15, -E15]])

    def test_rate_of_0(self):
        self.assertEqual(ask_behind(opened(0, rate=0), [(RECKON, 123456), (RECKON, -123456)]),
                         [[0, 123, 0], [0, -124, 0]])

    def test_not_open(self):
        self.assertEqual(ask([(RECKON, 5), (RECKON, E18), (OPEN, 0, 0, 0), (RECKON, 5)]), [[-2], [-2], [0], [0, 0, 0]])


class Loss(unittest.TestCase):
    def answers(self, rows):
        return ask_behind(opened(0), [(LOSS,) + row for row in rows])

    def test_each_bears_in_its_turn(self):
        rows = [(loss, 10, 20, 30, 2, 4, 6) for loss in (0, 9, 10, 11, 30, 31, 60, 61, 65, 70, 77)]
        self.assertEqual(self.answers(rows), [
            [0, 0, 0, 0, 0, 0, 0], [0, 9, 0, 0, 0, 0, 0], [0, 10, 0, 0, 0, 0, 0], [0, 10, 1, 0, 0, 0, 0],
            [0, 10, 20, 0, 0, 0, 0], [0, 10, 20, 1, 0, 0, 0], [0, 10, 20, 30, 0, 0, 0], [0, 10, 20, 30, 0, 0, 1],
            [0, 10, 20, 30, 0, 2, 3], [0, 10, 20, 30, 0, 4, 6], [0, 10, 20, 30, 7, 4, 6]])

    def test_second_row_of_0(self):
        self.assertEqual(self.answers([(61, 10, 20, 30, 0), (0, 0, 0, 0, 0)]), [[0, 10, 20, 30, 1], [0, 0, 0, 0, 0]])

    def test_second_row_of_16(self):
        self.assertEqual(self.answers([(19, 0, 0, 0, 16) + (3,) * 16]), [[0, 0, 0, 0, 0] + [2] * 3 + [1] * 13])
        self.assertEqual(self.answers([(E15, 0, 0, 0, 16) + (E15,) * 16]), [[0, 0, 0, 0, 0] + [E15 // 16] * 16])
        self.assertEqual(self.answers([(E15, 0, 0, 0, 16) + tuple(range(16))]),
                         [[0, 0, 0, 0, E15 - 120] + list(range(16))])

    def test_second_row_of_17_and_200(self):
        self.assertEqual(self.answers([(19, 0, 0, 0, 17) + (3,) * 17, (19, 0, 0, 0, 200) + (3,) * 200]), [[-1], [-1]])

    def test_number_of_the_second_row_out_of_its_range(self):
        rows = [(5, 0, 0, 0, 3, 1, 1, -1), (5, 0, 0, 0, 3, E15 + 1, 1, 1), (5, 0, 0, 0, 3, 0, E15, 1),
                (5, 9, 0, 0, 1, E18)]
        self.assertEqual(self.answers(rows), [[-1], [-1], [0, 0, 0, 0, 0, 0, 5, 0], [-1]])

    def test_greatest_remainders_earlier_one_first(self):
        self.assertEqual(self.answers([(10, 0, 0, 0, 3, 4, 8, 16), (5, 0, 0, 0, 3, 3, 3, 3), (1, 0, 0, 0, 3, 0, 5, 5)]),
                         [[0, 0, 0, 0, 0, 1, 3, 6], [0, 0, 0, 0, 0, 2, 2, 1], [0, 0, 0, 0, 0, 0, 1, 0]])

    def test_others_of_0_bear_nothing(self):
        self.assertEqual(self.answers([(9, 1, 1, 1, 2, 0, 0)]), [[0, 1, 1, 1, 6, 0, 0]])

    def test_members_and_house_do_not_count(self):
        rows = opened(2, house_part=50) + [(FUND, 1, 8), (DEPOSIT, 2, 8)]
        self.assertEqual(ask_behind(rows, [(LOSS, 9, 1, 1, 1, 1, 2), (LEDGER,)]),
                         [[0, 1, 1, 1, 4, 2], [0, 0, 0, 0, 66, 50, 0, 0]])

    def test_out_of_range_before_not_open(self):
        self.assertEqual(ask([(LOSS, 9, 1, 1, 1, 17) + (0,) * 17, (LOSS, 9, 1, 1, 1, 1, -1), (LOSS, 9, 1, 1, 1, 0)]),
                         [[-1], [-1], [-2]])


if __name__ == "__main__":
    unittest.main()
