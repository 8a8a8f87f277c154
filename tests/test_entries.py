import unittest

from tests.helper import (BILL, BILL_ALL, DAY, DEPOSIT, E15, E18, FAIL, FUND, ITEM, MEMBER, OPEN, PAY, RELEASE, ask,
                          ask_behind, ask_house, house_behind, snapshot, step)

OPENED = [(OPEN, 5, 1000, 0)]
TWO_MEMBERS = OPENED + [(MEMBER,), (MEMBER,)]


class OpenHouse(unittest.TestCase):
    def test_opened_once(self):
        self.assertEqual(ask([(OPEN, 5, 1000, 7), (OPEN, 5, 1000, 7)]), [[0], [-3]])

    def test_out_of_range_before_open_already(self):
        self.assertEqual(ask_behind(OPENED, [(OPEN, 5, 1000, -1)]), [[-1]])

    def test_refused_opening_leaves_it_shut(self):
        self.assertEqual(ask([(OPEN, 5, 10001, 7), (MEMBER,), (OPEN, 5, 1000, 7), (MEMBER,)]),
                         [[-1], [-2], [0], [0, 1]])

    def test_refused_second_opening_keeps_terms_and_rate(self):
        house = house_behind(OPENED)
        self.assertEqual(step(house, (OPEN, 0, 0, E15)), (house, [-3]))
        self.assertEqual((house.terms, house.rate, house.house_part, house.cash), (5, 1000, 0, 0))

    def test_what_is_kept_at_first(self):
        house = house_behind([(OPEN, 5, 1000, 7), (MEMBER,)])
        self.assertEqual((house.terms, house.rate, house.house_part, house.cash), (5, 1000, 7, 7))
        self.assertEqual((house.today, house.market, house.rounding, house.taxes, house.loss), (0, 0, 0, 0, 0))
        member = house.members[0]
        self.assertEqual((member.unbilled, member.pool, member.collateral, member.fund_part, member.failed),
                         (0, 0, 0, 0, False))

    def test_cash_is_the_house_part(self):
        filled = [(OPEN, 0, 0, E15), (MEMBER,)]
        self.assertEqual(ask_behind(filled, [(PAY, 1, 1)]), [[-8]])
        almost = [(OPEN, 0, 0, E15 - 1), (MEMBER,)]
        self.assertEqual(ask_behind(almost, [(PAY, 1, 1), (PAY, 1, 1)]), [[0, 0, 1], [-8]])


class NewMember(unittest.TestCase):
    def test_16_and_no_more(self):
        found = ask(OPENED + [(MEMBER,)] * 18)
        self.assertEqual(found[1:], [[0, number] for number in range(1, 17)] + [[-4], [-4]])

    def test_16th_is_there_and_17th_stays_out_of_range(self):
        members = OPENED + [(MEMBER,)] * 16
        self.assertEqual(ask_behind(members, [(MEMBER,), (DEPOSIT, 16, 3), (DEPOSIT, 17, 3)]), [[-4], [0, 3], [-1]])


class NewDay(unittest.TestCase):
    def test_only_after_today(self):
        days = [(DAY, 0), (DAY, 1), (DAY, 1), (DAY, 0), (DAY, 1000000), (DAY, 1000000), (DAY, 999999)]
        self.assertEqual(ask_behind(OPENED, days), [[-10], [0], [-10], [-10], [0], [-10], [-10]])

    def test_due_day_is_counted_from_today(self):
        rows = TWO_MEMBERS + [(DAY, 3), (ITEM, 1, 0, 1000), (BILL, 1, 0), (DAY, 8)]
        self.assertEqual(ask_behind(rows, [(FAIL, 1), (DAY, 9), (FAIL, 1)]), [[-11], [0], [0, 1, 0, 0, 0, 1, 0, 0]])


class Item(unittest.TestCase):
    def test_total_of_the_member_and_period(self):
        items = [(ITEM, 1, 7, 500), (ITEM, 1, 7, -800), (ITEM, 1, 8, 4), (ITEM, 2, 7, 9), (ITEM, 1, 7, 0)]
        self.assertEqual(ask_behind(TWO_MEMBERS, items), [[0, 500], [0, -300], [0, 4], [0, 9], [0, -300]])

    def test_total_goes_on_behind_a_bill(self):
        rows = TWO_MEMBERS + [(ITEM, 1, 7, 5500), (BILL, 1, 7)]
        self.assertEqual(ask_behind(rows, [(ITEM, 1, 7, 600)]), [[0, 6100]])

    def test_unbilled_and_market(self):
        house = house_behind(TWO_MEMBERS + [(ITEM, 1, 7, 500), (ITEM, 2, 7, -70), (ITEM, 1, 8, 1)])
        self.assertEqual([member.unbilled for member in house.members], [501, -70])
        self.assertEqual(house.market, -431)

    def test_unbilled_counts_for_the_need(self):
        rows = TWO_MEMBERS + [(DEPOSIT, 1, 10), (ITEM, 1, 0, 2001)]
        self.assertEqual(ask_behind(rows, [(RELEASE, 1, 8), (RELEASE, 1, 7)]), [[-9], [0, 3]])

    def test_closed_period(self):
        house = house_behind(TWO_MEMBERS)
        house.closed[7] = True
        self.assertEqual(ask_house(house, (ITEM, 1, 7, 1)), [-7])
        self.assertEqual(ask_house(house, (ITEM, 1, 6, 1)), [0, 1])

    def test_order_of_refusals_with_a_closed_period(self):
        house = house_behind(TWO_MEMBERS + [(ITEM, 1, 0, 1000), (BILL, 1, 0), (DAY, 6), (FAIL, 1)])
        house.closed[7] = True
        self.assertEqual(ask_house(house, (ITEM, 3, 7, 1)), [-5])
        self.assertEqual(ask_house(house, (ITEM, 1, 7, 1)), [-6])
        self.assertEqual(ask_house(house, (ITEM, 2, 7, 1)), [-7])


class Pairs(unittest.TestCase):
    def setUp(self):
        self.rows = OPENED + [(MEMBER,)] * 16
        self.rows += [(ITEM, member, period, 0) for period in range(16) for member in range(1, 17)]

    def test_256th_pair(self):
        self.assertEqual(ask(self.rows)[-1], [0, 0])

    def test_257th_pair(self):
        asked = [(ITEM, 1, 16, 0), (ITEM, 16, 9999, 5), (ITEM, 1, 0, 5), (ITEM, 16, 15, 6)]
        self.assertEqual(ask_behind(self.rows, asked), [[-4], [-4], [0, 5], [0, 6]])

    def test_256th_pair_beside_a_257th(self):
        self.assertEqual(ask_behind(self.rows[:-1], [(ITEM, 16, 16, 3), (ITEM, 16, 15, 3)]), [[0, 3], [-4]])

    def test_order_of_refusals(self):
        house = house_behind(self.rows)
        house.closed[16] = True
        self.assertEqual(ask_house(house, (ITEM, 1, 16, 0)), [-7])
        house.loss = E15 + 1
        self.assertEqual(ask_house(house, (ITEM, 1, 17, 0)), [-4])
        self.assertEqual(ask_house(house, (ITEM, 1, 0, 0)), [-8])


class ItemLimit(unittest.TestCase):
    def times(self, member, period, amount, count):
        return [(ITEM, member, period, amount)] * count

    def test_total_may_be_10_to_the_18th_either_way(self):
        for sign in (1, -1):
            house = house_behind(TWO_MEMBERS + self.times(1, 0, sign * E15, 1000))
            self.assertEqual(ask_house(house, (ITEM, 1, 0, 0)), [0, sign * E18])
            self.assertEqual(ask_house(house, (ITEM, 1, 0, sign)), [-8])
            self.assertEqual(ask_house(house, (ITEM, 1, 0, -sign)), [0, sign * (E18 - 1)])

    def test_unbilled_beyond_over_two_periods(self):
        for sign in (1, -1):
            rows = self.times(1, 0, sign * E15, 500) + self.times(1, 1, sign * E15, 500)
            house = house_behind(TWO_MEMBERS + rows + self.times(2, 0, -sign * E15, 1))
            self.assertEqual(ask_house(house, (ITEM, 1, 2, sign)), [-8])
            self.assertEqual(ask_house(house, (ITEM, 2, 2, sign)), [0, sign])

    def test_market_beyond(self):
        for sign in (1, -1):
            rows = self.times(1, 0, sign * E15, 500) + self.times(2, 0, sign * E15, 500)
            house = house_behind(TWO_MEMBERS + rows)
            before = snapshot(house)
            self.assertEqual(step(house, (ITEM, 1, 0, sign)), (house, [-8]))
            self.assertEqual(snapshot(house), before)
            self.assertEqual(ask_house(house, (ITEM, 1, 0, -sign)), [0, sign * (500 * E15 - 1)])

    def test_total_alone_beyond(self):
        for sign in (1, -1):
            house = house_behind([(OPEN, 5, 0, 0), (MEMBER,), (MEMBER,)] + self.times(2, 1, -sign * E15, 1)
                                 + self.times(1, 0, sign * E15, 1000) + [(BILL, 1, 0)])
            self.assertEqual(ask_house(house, (ITEM, 1, 0, sign)), [-8])
            self.assertEqual(ask_house(house, (ITEM, 1, 1, sign)), [0, sign])

    def test_any_account_beyond_counts(self):
        house = house_behind(TWO_MEMBERS)
        house.loss = E15
        self.assertEqual(ask_house(house, (ITEM, 1, 0, 1)), [0, 1])
        house.loss = E15 + 1
        rows = [(ITEM, 1, 0, 1), (BILL, 1, 0), (BILL_ALL, 0), (PAY, 1, 1), (DEPOSIT, 1, 1), (FUND, 1, 1)]
        self.assertEqual([ask_house(house, row) for row in rows], [[-8]] * 6)


if __name__ == "__main__":
    unittest.main()
