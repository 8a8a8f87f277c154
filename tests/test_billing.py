import unittest

from tests.helper import (BILL, BILL_ALL, DAY, E15, FAIL, ITEM, MEMBER, OPEN, PAY, REFUND, ask_behind, ask_house,
                          house_behind, snapshot, step)


def members(count, terms=5, rate=1000, house_part=0):
    return [(OPEN, terms, rate, house_part)] + [(MEMBER,)] * count


def rests(house):
    return [invoice.rest for invoice in house.invoices]


class Bill(unittest.TestCase):
    def test_invoice_above_0(self):
        rows = members(2) + [(ITEM, 2, 7, 123999)]
        self.assertEqual(ask_behind(rows, [(BILL, 2, 7), (BILL, 2, 7)]), [[0, 1, 1, 2, 123, 12], [0, 0]])

    def test_what_is_kept_behind_it(self):
        house = house_behind(members(2) + [(DAY, 4), (ITEM, 2, 7, 123999), (ITEM, 2, 8, 50), (BILL, 2, 7)])
        self.assertEqual((house.members[1].unbilled, house.rounding, house.taxes, house.market),
                         (50, 999, -12, -124049))
        pair = house.pairs[(2, 7)]
        self.assertEqual((pair.total, pair.seen, pair.billed, pair.tax_billed), (123999, 123999, 123, 12))
        invoice = house.invoices[0]
        self.assertEqual((invoice.number_of_member, invoice.period, invoice.cents, invoice.tax, invoice.due_day,
                          invoice.rest), (2, 7, 123, 12, 9, 135))

    def test_without_items_nothing_happens(self):
        house = house_behind(members(2) + [(ITEM, 2, 7, 123999)])
        after, answer = step(house, (BILL, 1, 7))
        self.assertEqual(answer, [0, 0])
        self.assertEqual(snapshot(after), snapshot(house))

    def test_corrections_bring_it_to_the_rounded_total(self):
        rows = members(1) + [(ITEM, 1, 7, 14999), (BILL, 1, 7), (ITEM, 1, 7, 1)]
        asked = [(BILL, 1, 7), (ITEM, 1, 7, -1), (BILL, 1, 7)]
        self.assertEqual(ask_behind(rows, asked), [[0, 1, 2, 1, 1, 1], [0, 14999], [0, 1, 3, 1, -1, -1]])

    def test_amounts_below_0_are_rounded_down(self):
        rows = members(1, rate=5000) + [(ITEM, 1, 7, -1)]
        self.assertEqual(ask_behind(rows, [(BILL, 1, 7), (ITEM, 1, 7, -1000), (BILL, 1, 7)]),
                         [[0, 1, 1, 1, -1, 0], [0, -1001], [0, 1, 2, 1, -1, -1]])

    def test_rounding_below_and_above(self):
        house = house_behind(members(1) + [(ITEM, 1, 7, -1), (BILL, 1, 7)])
        self.assertEqual((house.rounding, house.members[0].unbilled), (999, 0))
        house = house_behind(members(1) + [(ITEM, 1, 7, 999), (BILL, 1, 7), (ITEM, 1, 7, 1), (BILL, 1, 7)])
        self.assertEqual((house.rounding, house.members[0].unbilled), (0, 0))

    def test_halves_of_tax_go_up(self):
        rows = members(3, rate=5000) + [(ITEM, 1, 0, 1000), (ITEM, 2, 0, 3000), (ITEM, 3, 0, -3000)]
        self.assertEqual(ask_behind(rows, [(BILL, 1, 0), (BILL, 2, 0), (BILL, 3, 0)]),
                         [[0, 1, 1, 1, 1, 1], [0, 1, 2, 2, 3, 2], [0, 1, 3, 3, -3, -1]])

    def test_no_invoice_of_0_yet_all_is_seen(self):
        house = house_behind(members(1) + [(ITEM, 1, 7, 999)])
        house, answer = step(house, (BILL, 1, 7))
        self.assertEqual(answer, [0, 0])
        pair = house.pairs[(1, 7)]
        self.assertEqual((pair.total, pair.seen, pair.billed, pair.tax_billed), (999, 999, 0, 0))
        self.assertEqual((house.members[0].unbilled, house.rounding, house.invoices), (0, 999, []))

    def test_numbers_of_invoices_go_on_over_members(self):
        rows = members(2) + [(ITEM, 2, 7, 1000), (ITEM, 1, 7, 2000), (ITEM, 1, 8, -3000)]
        self.assertEqual(ask_behind(rows, [(BILL, 2, 7), (BILL, 1, 7), (BILL, 1, 8)]),
                         [[0, 1, 1, 2, 1, 0], [0, 1, 2, 1, 2, 0], [0, 1, 3, 1, -3, 0]])


class MoneyOnInvoices(unittest.TestCase):
    def test_pool_is_put_on_a_new_invoice(self):
        rows = members(2, rate=0) + [(PAY, 1, 30), (PAY, 2, 9), (ITEM, 1, 0, 20000), (BILL, 1, 0)]
        house = house_behind(rows)
        self.assertEqual((rests(house), [member.pool for member in house.members]), ([0], [10, 9]))
        house = house_behind(rows + [(ITEM, 1, 1, 20000), (BILL, 1, 1)])
        self.assertEqual((rests(house), [member.pool for member in house.members]), ([0, 10], [0, 9]))

    def test_bill_below_0_goes_to_the_oldest_first_then_the_pool(self):
        rows = members(2, rate=0) + [(ITEM, 1, 0, 10000), (BILL, 1, 0), (ITEM, 2, 0, 10000), (BILL, 2, 0),
                                     (ITEM, 1, 1, 10000), (BILL, 1, 1), (ITEM, 1, 2, -14000), (BILL, 1, 2)]
        house = house_behind(rows)
        self.assertEqual((rests(house), house.members[0].pool), ([0, 10, 6, 0], 0))
        house = house_behind(rows + [(ITEM, 1, 2, -9000), (BILL, 1, 2)])
        self.assertEqual((rests(house), house.members[0].pool), ([0, 10, 0, 0, 0], 3))

    def test_credit_can_be_paid_out(self):
        rows = members(1, rate=1000, house_part=50) + [(ITEM, 1, 0, -10000), (BILL, 1, 0)]
        self.assertEqual(ask_behind(rows, [(REFUND, 1, 12), (REFUND, 1, 11)]), [[-9], [0, 0]])

    def test_credit_grows_the_pool(self):
        rows = members(1, house_part=50) + [(PAY, 1, 4), (ITEM, 1, 0, -10000), (BILL, 1, 0)]
        self.assertEqual(ask_behind(rows, [(PAY, 1, 1)]), [[0, 0, 16]])


class BillAll(unittest.TestCase):
    def test_all_with_unseen_totals_in_order_of_number(self):
        rows = members(5) + [(ITEM, 5, 7, 30000), (ITEM, 2, 7, -20000), (ITEM, 1, 7, 999), (ITEM, 3, 8, 5000),
                             (ITEM, 4, 7, 10000), (BILL, 4, 7)]
        self.assertEqual(ask_behind(rows, [(BILL_ALL, 7), (BILL_ALL, 7), (BILL_ALL, 9), (BILL_ALL, 8)]),
                         [[0, 2, 2, 2, -20, -2, 3, 5, 30, 3], [0, 0], [0, 0], [0, 1, 4, 3, 5, 1]])

    def test_one_without_an_invoice_is_seen(self):
        house = house_behind(members(2) + [(ITEM, 1, 7, 999), (ITEM, 2, 7, 1000), (BILL_ALL, 7)])
        self.assertTrue(house.pairs[(1, 7)].is_all_seen())
        self.assertEqual([member.unbilled for member in house.members], [0, 0])

    def test_failed_member_is_passed_over(self):
        rows = members(2) + [(ITEM, 1, 7, 9000), (ITEM, 2, 7, 5000), (BILL, 1, 7), (DAY, 6), (FAIL, 1)]
        self.assertEqual(ask_behind(rows, [(BILL_ALL, 7)]), [[0, 1, 2, 2, 5, 1]])
        house = house_behind(rows)
        house.pairs[(1, 7)] = house.pairs[(1, 7)].with_item(70000)
        self.assertEqual(ask_house(house, (BILL_ALL, 7)), [0, 1, 2, 2, 5, 1])


class ClosedPeriod(unittest.TestCase):
    def test_refused(self):
        house = house_behind(members(1) + [(ITEM, 1, 7, 9000), (ITEM, 1, 8, 9000)])
        house.closed[7] = True
        self.assertEqual(ask_house(house, (BILL, 1, 7)), [-7])
        self.assertEqual(ask_house(house, (BILL_ALL, 7)), [-7])
        self.assertEqual(ask_house(house, (BILL, 1, 8)), [0, 1, 1, 1, 9, 1])
        self.assertEqual(ask_house(house, (BILL_ALL, 8)), [0, 1, 1, 1, 9, 1])

    def test_order_of_refusals(self):
        house = house_behind(members(2) + [(ITEM, 1, 7, 9000), (BILL, 1, 7), (DAY, 6), (FAIL, 1)])
        house.closed[7] = True
        house.loss = E15 + 1
        self.assertEqual([ask_house(house, (BILL, number, 7)) for number in (3, 1, 2)], [[-5], [-6], [-7]])
        self.assertEqual(ask_house(house, (BILL_ALL, 7)), [-7])


class MostInvoices(unittest.TestCase):
    def setUp(self):
        self.rows = members(16) + [(ITEM, member, period, 9000) for period in range(16) for member in range(1, 17)]
        self.rows += [(BILL_ALL, period) for period in range(15)]

    def test_256th_and_257th(self):
        asked = [(BILL_ALL, 15), (ITEM, 3, 0, 1000), (BILL, 3, 0), (BILL_ALL, 0), (BILL, 4, 0)]
        found = ask_behind(self.rows, asked)
        self.assertEqual(found[0][:2] + found[0][-4:], [0, 16, 256, 16, 9, 1])
        self.assertEqual(found[1:], [[0, 10000], [-4], [-4], [0, 0]])

    def test_bill_that_makes_no_invoice_is_let(self):
        asked = [(BILL_ALL, 15), (ITEM, 3, 0, 1), (BILL, 3, 0), (ITEM, 4, 0, 1), (BILL_ALL, 0), (BILL, 5, 9)]
        self.assertEqual(ask_behind(self.rows, asked)[2:], [[0, 0], [0, 9001], [0, 0], [0, 0]])

    def test_more_than_there_is_room_for(self):
        rows = self.rows + [(ITEM, 3, 0, 1000), (BILL, 3, 0)]
        asked = [(BILL_ALL, 15), (BILL, 16, 15), (BILL_ALL, 15), (ITEM, 15, 15, -9000), (BILL_ALL, 15)]
        made = [number for member in range(1, 15) for number in (242 + member, member, 9, 1)]
        self.assertEqual(ask_behind(rows, asked), [[-4], [0, 1, 242, 16, 9, 1], [-4], [0, 0], [0, 14] + made])

    def test_refused_bills_change_nothing(self):
        house = house_behind(self.rows + [(ITEM, 3, 0, 1000), (BILL, 3, 0)])
        before = snapshot(house)
        self.assertEqual(step(house, (BILL_ALL, 15)), (house, [-4]))
        self.assertEqual(snapshot(house), before)
        house = house_behind(self.rows + [(BILL_ALL, 15), (ITEM, 3, 0, 1000)])
        before = snapshot(house)
        self.assertEqual(step(house, (BILL, 3, 0)), (house, [-4]))
        self.assertEqual(snapshot(house), before)

    def test_order_of_refusals(self):
        house = house_behind(self.rows + [(BILL_ALL, 15), (ITEM, 3, 0, 1000)])
        house.loss = E15 + 1
        self.assertEqual(ask_house(house, (BILL, 3, 0)), [-4])
        self.assertEqual(ask_house(house, (BILL_ALL, 0)), [-4])
        self.assertEqual(ask_house(house, (BILL, 4, 0)), [-8])
        self.assertEqual(ask_house(house, (BILL_ALL, 1)), [-8])
        house.closed[0] = True
        self.assertEqual(ask_house(house, (BILL, 3, 0)), [-7])
        self.assertEqual(ask_house(house, (BILL_ALL, 0)), [-7])


class BillLimit(unittest.TestCase):
    def house_with(self, sign, rate, more):
        items = [(ITEM, 1, 0, sign * E15)] * 500 + [(ITEM, 1, 0, sign * 1000 * more)]
        return house_behind(members(1, rate=rate) + items)

    def test_invoices_and_pool_at_the_limit(self):
        for row in ((BILL, 1, 0), (BILL_ALL, 0)):
            half = 500 * E15 // 1000
            self.assertEqual(ask_house(self.house_with(1, 10000, 0), row), [0, 1, 1, 1, half, half])
            self.assertEqual(ask_house(self.house_with(-1, 10000, 0), row), [0, 1, 1, 1, -half, -half])

    def test_invoices_and_pool_beyond_the_limit(self):
        for row in ((BILL, 1, 0), (BILL_ALL, 0)):
            for sign in (1, -1):
                house = self.house_with(sign, 10000, 1)
                before = snapshot(house)
                self.assertEqual(step(house, row), (house, [-8]))
                self.assertEqual(snapshot(house), before)

    def test_rounding_beyond_the_limit(self):
        house = house_behind(members(1) + [(ITEM, 1, 0, 999)])
        house.rounding = 10 ** 18 - 999
        self.assertEqual(ask_house(house, (BILL, 1, 0)), [0, 0])
        house.rounding = 10 ** 18 - 998
        self.assertEqual(ask_house(house, (BILL, 1, 0)), [-8])

    def test_taxes_beyond_the_limit(self):
        house = house_behind(members(1, rate=10000) + [(ITEM, 1, 0, 1000)])
        house.taxes = 1 - E15
        self.assertEqual(ask_house(house, (BILL, 1, 0)), [0, 1, 1, 1, 1, 1])
        house.taxes = -E15
        self.assertEqual(ask_house(house, (BILL, 1, 0)), [-8])


if __name__ == "__main__":
    unittest.main()
