import unittest

from tests.helper import (BILL, BILL_ALL, CLOSE, DAY, E15, FAIL, ITEM, MEMBER, OPEN, PREVIEW, TOTAL, ask_behind,
                          ask_house, house_behind, snapshot, step)


def opened(count):
    return [(OPEN, 5, 1000, 0)] + [(MEMBER,)] * count


class Close(unittest.TestCase):
    def test_closed_period_is_shut_for_all_four(self):
        rows = opened(2) + [(ITEM, 1, 7, 9000), (BILL_ALL, 7), (CLOSE, 7)]
        asked = [(ITEM, 1, 7, 1), (ITEM, 2, 7, 0), (BILL, 1, 7), (BILL, 2, 7), (BILL_ALL, 7), (CLOSE, 7)]
        self.assertEqual(ask_behind(rows, asked), [[-7]] * 6)

    def test_other_periods_stay(self):
        rows = opened(1) + [(CLOSE, 7)]
        asked = [(ITEM, 1, 6, 9000), (BILL, 1, 6), (ITEM, 1, 8, 9000), (BILL_ALL, 8), (CLOSE, 6), (CLOSE, 8)]
        self.assertEqual(ask_behind(rows, asked), [[0, 9000], [0, 1, 1, 1, 9, 1], [0, 9000], [0, 1, 2, 1, 9, 1],
                                                   [0], [0]])

    def test_without_items_or_members(self):
        self.assertEqual(ask_behind(opened(0), [(CLOSE, 0), (CLOSE, 9999), (CLOSE, 0)]), [[0], [0], [-7]])

    def test_not_while_a_total_is_not_all_seen(self):
        rows = opened(3) + [(ITEM, 1, 7, 9000), (ITEM, 3, 7, 400), (ITEM, 2, 8, 50)]
        asked = [(CLOSE, 7), (BILL, 1, 7), (CLOSE, 7), (BILL, 3, 7), (ITEM, 1, 7, -1), (CLOSE, 7), (BILL_ALL, 7),
                 (CLOSE, 7), (CLOSE, 8)]
        self.assertEqual([answer[0] for answer in ask_behind(rows, asked)], [-11, 0, -11, 0, 0, -11, 0, 0, -11])

    def test_total_that_is_back_at_what_was_seen(self):
        rows = opened(1) + [(ITEM, 1, 7, 900), (ITEM, 1, 7, -900)]
        self.assertEqual(ask_behind(rows, [(CLOSE, 7)]), [[0]])

    def test_failed_member_is_left_out(self):
        rows = opened(2) + [(ITEM, 1, 7, 9000), (BILL, 1, 7), (DAY, 6), (FAIL, 1)]
        self.assertEqual(ask_behind(rows, [(CLOSE, 7), (ITEM, 1, 7, 1), (ITEM, 2, 7, 1)]), [[0], [-6], [-7]])
        house = house_behind(rows + [(ITEM, 2, 7, 5000)])
        house.pairs[(1, 7)] = house.pairs[(1, 7)].with_item(70000)
        self.assertEqual(ask_house(house, (CLOSE, 7)), [-11])
        house = step(house, (BILL_ALL, 7))[0]
        self.assertEqual(ask_house(house, (CLOSE, 7)), [0])

    def test_total_and_preview_are_still_told(self):
        rows = opened(1) + [(ITEM, 1, 7, 9500), (BILL, 1, 7), (CLOSE, 7)]
        self.assertEqual(ask_behind(rows, [(TOTAL, 1, 7), (PREVIEW, 1, 7)]), [[0, 9500, 9500, 9, 1], [0, 0, 0]])

    def test_nothing_else_changes(self):
        house = house_behind(opened(1) + [(ITEM, 1, 7, 9500), (BILL, 1, 7), (ITEM, 1, 8, 1)])
        after = step(house, (CLOSE, 7))[0]
        house.closed[7] = True
        self.assertEqual(snapshot(after), snapshot(house))

    def test_account_beyond_the_limit_is_no_refusal(self):
        house = house_behind(opened(1))
        house.loss = E15 + 1
        self.assertEqual(ask_house(house, (CLOSE, 7)), [0])


class OrderOfRefusals(unittest.TestCase):
    def test_no_such_member_and_failed_before_closed(self):
        rows = opened(2) + [(ITEM, 1, 0, 9000), (BILL, 1, 0), (DAY, 6), (FAIL, 1), (CLOSE, 7)]
        for number, refusal in ((3, -5), (1, -6), (2, -7)):
            self.assertEqual(ask_behind(rows, [(ITEM, number, 7, 1), (BILL, number, 7)]), [[refusal]] * 2)

    def test_closed_before_no_room_for_a_pair(self):
        rows = opened(16) + [(ITEM, member, period, 0) for period in range(16) for member in range(1, 17)]
        asked = [(ITEM, 1, 16, 0), (CLOSE, 16), (ITEM, 1, 16, 0), (ITEM, 1, 17, 0)]
        self.assertEqual(ask_behind(rows, asked), [[-4], [0], [-7], [-4]])

    def test_closed_before_not_all_seen(self):
        house = house_behind(opened(1) + [(ITEM, 1, 7, 1)])
        self.assertEqual(ask_house(house, (CLOSE, 7)), [-11])
        house.closed[7] = True
        self.assertEqual(ask_house(house, (CLOSE, 7)), [-7])


class MostClosedPeriods(unittest.TestCase):
    def setUp(self):
        self.rows = opened(1) + [(CLOSE, period) for period in range(255)]

    def test_256th_and_257th(self):
        asked = [(CLOSE, 9999), (CLOSE, 255), (CLOSE, 256), (ITEM, 1, 255, 4), (ITEM, 1, 9999, 4)]
        self.assertEqual(ask_behind(self.rows, asked), [[0], [-4], [-4], [0, 4], [-7]])

    def test_order_of_refusals(self):
        rows = self.rows + [(CLOSE, 300), (ITEM, 1, 400, 4)]
        asked = [(CLOSE, 300), (CLOSE, 0), (CLOSE, 400), (BILL, 1, 400), (CLOSE, 400), (CLOSE, -1)]
        self.assertEqual(ask_behind(rows, asked), [[-7], [-7], [-11], [0, 0], [-4], [-1]])

    def test_refused_changes_nothing(self):
        house = house_behind(self.rows + [(CLOSE, 300), (ITEM, 1, 400, 4)])
        before = snapshot(house)
        for row, refusal in (((CLOSE, 300), -7), ((CLOSE, 400), -11), ((CLOSE, 500), -4)):
            self.assertEqual(step(house, row), (house, [refusal]))
            self.assertEqual(snapshot(house), before)


if __name__ == "__main__":
    unittest.main()
