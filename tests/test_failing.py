import unittest

from tests.helper import (BILL, BILL_ALL, DAY, DEPOSIT, E15, FAIL, FUND, ITEM, MEMBER, OPEN, PAY, RECOVER, REFUND,
                          ask_behind, ask_house, house_behind, snapshot, step)


def opened(count, house_part=0):
    return [(OPEN, 5, 0, house_part)] + [(MEMBER,)] * count


def owing(number, cents):
    return [(ITEM, number, 0, 1000 * cents), (BILL, number, 0)]


class WhenItMayFail(unittest.TestCase):
    def test_only_with_an_overdue_invoice(self):
        asked = [(FAIL, 1), (DAY, 5), (FAIL, 1), (DAY, 6), (FAIL, 1)]
        self.assertEqual(ask_behind(opened(1) + owing(1, 7), asked), [[-11], [0], [-11], [0], [0, 7, 0, 0, 0, 7, 0]])

    def test_not_if_paid(self):
        rows = opened(1) + owing(1, 7) + [(PAY, 1, 7), (DAY, 99)]
        self.assertEqual(ask_behind(rows, [(FAIL, 1)]), [[-11]])

    def test_not_for_what_another_one_owes(self):
        rows = opened(2) + owing(2, 7) + [(DAY, 99)]
        self.assertEqual(ask_behind(rows, [(FAIL, 1)]), [[-11]])

    def test_not_without_invoices(self):
        self.assertEqual(ask_behind(opened(1) + [(DAY, 99)], [(FAIL, 1)]), [[-11]])

    def test_not_while_a_total_is_not_all_seen(self):
        rows = opened(2) + owing(1, 7) + [(ITEM, 1, 3, 1), (ITEM, 2, 4, 1), (DAY, 6)]
        self.assertEqual(ask_behind(rows, [(FAIL, 1), (BILL, 1, 3), (FAIL, 1)]),
                         [[-11], [0, 0], [0, 7, 0, 0, 0, 7, 0, 0]])
        rows = opened(1) + owing(1, 7) + [(ITEM, 1, 0, -1), (DAY, 6)]
        self.assertEqual(ask_behind(rows, [(FAIL, 1)]), [[-11]])

    def test_item_of_0_is_all_seen(self):
        rows = opened(1) + owing(1, 7) + [(ITEM, 1, 3, 0), (DAY, 6)]
        self.assertEqual(ask_behind(rows, [(FAIL, 1)]), [[0, 7, 0, 0, 0, 7, 0]])

    def test_failed_already_comes_before(self):
        rows = opened(1) + owing(1, 7) + [(DAY, 6), (FAIL, 1)]
        self.assertEqual(ask_behind(rows, [(FAIL, 1), (FAIL, 2)]), [[-6], [-5]])

    def test_refused_changes_nothing(self):
        house = house_behind(opened(1) + owing(1, 7) + [(DAY, 5)])
        before = snapshot(house)
        self.assertEqual(step(house, (FAIL, 1)), (house, [-11]))
        self.assertEqual(snapshot(house), before)


class WhoBears(unittest.TestCase):
    def answer(self, loss):
        rows = opened(3, house_part=30) + [(DEPOSIT, 1, 10), (FUND, 1, 20), (FUND, 2, 4), (FUND, 3, 6)]
        return ask_behind(rows + owing(1, loss) + [(DAY, 6)], [(FAIL, 1)])[0]

    def test_each_of_the_five(self):
        self.assertEqual(self.answer(9), [0, 9, 9, 0, 0, 0, 0, 0, 0])
        self.assertEqual(self.answer(10), [0, 10, 10, 0, 0, 0, 0, 0, 0])
        self.assertEqual(self.answer(30), [0, 30, 10, 20, 0, 0, 0, 0, 0])
        self.assertEqual(self.answer(60), [0, 60, 10, 20, 30, 0, 0, 0, 0])
        self.assertEqual(self.answer(61), [0, 61, 10, 20, 30, 0, 0, 0, 1])
        self.assertEqual(self.answer(70), [0, 70, 10, 20, 30, 0, 0, 4, 6])
        self.assertEqual(self.answer(71), [0, 71, 10, 20, 30, 1, 0, 4, 6])

    def test_what_is_kept_behind_it(self):
        rows = opened(3, house_part=30) + [(DEPOSIT, 1, 10), (FUND, 1, 20), (FUND, 2, 4), (FUND, 3, 7)]
        house = house_behind(rows + owing(2, 5) + owing(1, 65) + [(DAY, 6), (FAIL, 1)])
        self.assertEqual([invoice.rest for invoice in house.invoices], [5, 0])
        self.assertEqual([member.failed for member in house.members], [True, False, False])
        self.assertEqual([member.fund_part for member in house.members], [0, 2, 4])
        self.assertEqual((house.members[0].collateral, house.house_part, house.loss, house.cash), (0, 0, 0, 71))

    def test_all_its_invoices_count_also_those_not_due(self):
        rows = opened(1) + owing(1, 7) + [(DAY, 6), (ITEM, 1, 1, 3000), (BILL, 1, 1), (PAY, 1, 1)]
        self.assertEqual(ask_behind(rows, [(FAIL, 1)]), [[0, 9, 0, 0, 0, 9, 0]])
        house = house_behind(rows + [(FAIL, 1)])
        self.assertEqual(([invoice.rest for invoice in house.invoices], house.loss), ([0, 0], 9))

    def test_collateral_of_others_does_not_bear(self):
        rows = opened(2) + [(DEPOSIT, 2, 50)] + owing(1, 7) + [(DAY, 6)]
        self.assertEqual(ask_behind(rows, [(FAIL, 1)]), [[0, 7, 0, 0, 0, 7, 0, 0]])

    def test_equal_remainders(self):
        rows = opened(4) + [(FUND, 2, 3), (FUND, 3, 3), (FUND, 4, 3)] + owing(1, 5) + [(DAY, 6)]
        self.assertEqual(ask_behind(rows, [(FAIL, 1)]), [[0, 5, 0, 0, 0, 0, 0, 2, 2, 1]])

    def test_own_fund_part_is_not_among_the_others(self):
        rows = opened(2) + [(FUND, 1, 3), (FUND, 2, 5)] + owing(1, 6) + [(DAY, 6)]
        self.assertEqual(ask_behind(rows, [(FAIL, 1)]), [[0, 6, 0, 3, 0, 0, 0, 3]])

    def test_fund_part_of_a_failed_one_does_not_bear(self):
        rows = opened(3) + [(FUND, 1, 30), (FUND, 3, 5)] + owing(1, 6) + owing(2, 6) + [(DAY, 6)]
        self.assertEqual(ask_behind(rows, [(FAIL, 1), (FAIL, 2)]),
                         [[0, 6, 0, 6, 0, 0, 0, 0, 0], [0, 6, 0, 0, 0, 1, 0, 0, 5]])

    def test_parts_are_less_at_the_next_failure(self):
        rows = opened(3, house_part=4) + [(FUND, 3, 10)] + owing(1, 6) + owing(2, 20) + [(DAY, 6)]
        self.assertEqual(ask_behind(rows, [(FAIL, 1), (FAIL, 2)]),
                         [[0, 6, 0, 0, 4, 0, 0, 0, 2], [0, 20, 0, 0, 0, 12, 0, 0, 8]])

    def test_loss_beyond_the_limit_is_no_refusal(self):
        house = house_behind(opened(1) + owing(1, 7) + [(DAY, 6)])
        house.loss = E15
        self.assertEqual(ask_house(house, (FAIL, 1)), [0, 7, 0, 0, 0, 7, 0])


class Recover(unittest.TestCase):
    def setUp(self):
        # Nobody bears 4, the others 3 and 7, the house 20, the collateral 5, the own fund part 6.
        self.rows = opened(3, house_part=20) + [(DEPOSIT, 1, 5), (FUND, 1, 6), (FUND, 2, 3), (FUND, 3, 7)]
        self.rows += owing(1, 45) + [(DAY, 6), (FAIL, 1)]

    def test_in_full_at_once(self):
        self.assertEqual(ask_behind(self.rows, [(RECOVER, 1, 35), (RECOVER, 1, 34), (RECOVER, 1, 1)]),
                         [[-12], [0, 4, 10, 20, 0, 3, 7], [-12]])

    def test_in_parts(self):
        asked = [(RECOVER, 1, 3), (RECOVER, 1, 2), (RECOVER, 1, 5), (RECOVER, 1, 4), (RECOVER, 1, 1),
                 (RECOVER, 1, 20), (RECOVER, 1, 19), (RECOVER, 1, 1)]
        self.assertEqual(ask_behind(self.rows, asked), [
            [0, 3, 0, 0, 0, 0, 0], [0, 1, 1, 0, 0, 0, 1], [0, 0, 5, 0, 0, 2, 3], [0, 0, 4, 0, 0, 1, 3],
            [0, 0, 0, 1, 0, 0, 0], [-12], [0, 0, 0, 19, 0, 0, 0], [-12]])

    def test_where_it_goes(self):
        house = house_behind(self.rows + [(RECOVER, 1, 16)])
        self.assertEqual((house.loss, house.house_part, house.cash), (0, 2, 57))
        self.assertEqual([member.fund_part for member in house.members], [0, 3, 7])
        self.assertEqual(house.members[0].collateral, 0)

    def test_equal_remainders(self):
        rows = opened(3) + [(FUND, 2, 5), (FUND, 3, 5)] + owing(1, 10) + [(DAY, 6), (FAIL, 1)]
        self.assertEqual(ask_behind(rows, [(RECOVER, 1, 3), (RECOVER, 1, 1)]), [[0, 0, 3, 0, 0, 2, 1],
                                                                              [0, 0, 1, 0, 0, 0, 1]])

    def test_no_others_to_split_among(self):
        rows = opened(2, house_part=5) + owing(1, 9) + [(DAY, 6), (FAIL, 1)]
        self.assertEqual(ask_behind(rows, [(RECOVER, 1, 9)]), [[0, 4, 0, 5, 0, 0]])

    def test_member_that_has_not_failed(self):
        self.assertEqual(ask_behind(self.rows, [(RECOVER, 2, 1), (RECOVER, 4, 1)]), [[-12], [-5]])

    def test_nothing_of_collateral_and_own_fund_part_comes_back(self):
        rows = opened(1) + [(DEPOSIT, 1, 5), (FUND, 1, 6)] + owing(1, 11) + [(DAY, 6), (FAIL, 1)]
        self.assertEqual(ask_behind(rows, [(RECOVER, 1, 1)]), [[-12]])

    def test_members_of_the_failure_alone(self):
        rows = self.rows + [(MEMBER,), (FUND, 4, 100)]
        self.assertEqual(ask_behind(rows, [(RECOVER, 1, 14), (FUND, 4, 1)]), [[0, 4, 10, 0, 0, 3, 7], [0, 101]])

    def test_one_that_failed_since(self):
        rows = opened(3) + [(FUND, 2, 4), (FUND, 3, 4)] + owing(1, 6) + owing(2, 5) + [(DAY, 6), (FAIL, 1), (FAIL, 2)]
        self.assertEqual(ask_behind(rows, [(RECOVER, 1, 4)]), [[0, 0, 4, 0, 0, 2, 2]])
        house = house_behind(rows + [(RECOVER, 1, 4)])
        self.assertEqual([member.fund_part for member in house.members], [0, 2, 2])

    def test_failures_are_kept_apart(self):
        rows = opened(3) + [(FUND, 3, 8)] + owing(1, 6) + owing(2, 5) + [(DAY, 6), (FAIL, 1), (FAIL, 2)]
        self.assertEqual(ask_behind(rows, [(RECOVER, 2, 6), (RECOVER, 2, 4), (RECOVER, 1, 6), (RECOVER, 2, 1)]),
                         [[-12], [0, 3, 1, 0, 0, 0, 1], [0, 0, 6, 0, 0, 0, 6], [0, 0, 1, 0, 0, 0, 1]])

    def test_recovered_parts_bear_again(self):
        rows = self.rows + [(RECOVER, 1, 34), (ITEM, 2, 1, 40000), (BILL_ALL, 1), (DAY, 12)]
        self.assertEqual(ask_behind(rows, [(FAIL, 2)]), [[0, 40, 0, 3, 20, 10, 0, 0, 7]])


class RecoverLimit(unittest.TestCase):
    def test_cash_at_the_limit(self):
        rows = opened(2) + owing(1, 9) + [(DAY, 6), (FAIL, 1), (DEPOSIT, 2, E15 - 2)]
        self.assertEqual(ask_behind(rows, [(RECOVER, 1, 10), (RECOVER, 1, 3), (RECOVER, 1, 2), (RECOVER, 1, 1)]),
                         [[-12], [-8], [0, 2, 0, 0, 0, 0], [-8]])

    def test_fund_part_alone_beyond_the_limit(self):
        rows = opened(3) + [(FUND, 2, 100)] + owing(1, 100) + owing(3, -500) + [(DAY, 6), (FAIL, 1)]
        rows += [(FUND, 2, E15 - 100), (REFUND, 3, 100), (FUND, 2, 50), (REFUND, 3, 60)]
        self.assertEqual(ask_behind(rows, [(RECOVER, 1, 51), (RECOVER, 1, 50), (RECOVER, 1, 1)]),
                         [[-8], [0, 0, 50, 0, 0, 50, 0], [-8]])

    def test_refused_changes_nothing(self):
        house = house_behind(opened(2, house_part=3) + [(FUND, 2, 2)] + owing(1, 9)
                             + [(DAY, 6), (FAIL, 1), (DEPOSIT, 2, E15 - 6)])
        before = snapshot(house)
        for row, refusal in (((RECOVER, 1, 10), -12), ((RECOVER, 1, 9), -8), ((RECOVER, 3, 1), -5)):
            self.assertEqual(step(house, row), (house, [refusal]))
            self.assertEqual(snapshot(house), before)


if __name__ == "__main__":
    unittest.main()
