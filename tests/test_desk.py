import unittest

from marketaccounts.desk import UnknownCall, answers
from tests.helper import (BILL, BILL_ALL, DAY, DEPOSIT, E15, E18, FAIL, FUND, ITEM, MEMBER, OPEN, PAY, RECOVER,
                          REFUND, RELEASE, ask, ask_behind, flat)

LONG_ROWS = [
    (OPEN, 10, 2000, 50), (MEMBER,), (MEMBER,), (MEMBER,), (FUND, 2, 30), (FUND, 3, 10), (DEPOSIT, 1, 20),
    (FUND, 1, 5), (ITEM, 1, 7, 100999), (ITEM, 2, 7, -5500), (BILL, 1, 7), (BILL_ALL, 7), (PAY, 1, 1), (PAY, 2, 3),
    (REFUND, 2, 2), (RELEASE, 1, 1), (DAY, 11), (FAIL, 1), (RECOVER, 1, 10), (RECOVER, 1, 30), (MEMBER,),
    (RECOVER, 1, 10),
]
LONG_ANSWERS = [
    [0], [0, 1], [0, 2], [0, 3], [0, 30], [0, 10], [0, 20],
    [0, 5], [0, 100999], [0, -5500], [0, 1, 1, 1, 100, 20], [0, 1, 2, 2, -6, -1], [0, 119, 0], [0, 0, 10],
    [0, 8], [-9], [0], [0, 119, 20, 5, 50, 4, 0, 30, 10], [0, 4, 6, 0, 0, 5, 1], [0, 0, 30, 0, 0, 22, 8], [0, 4],
    [0, 0, 4, 6, 0, 3, 1],
]

REFUSED_ANYWHERE = [
    (OPEN, 1, 1, 1), (OPEN, -1, 1, 1), (DAY, 0), (ITEM, 16, 7, 1), (ITEM, 0, 7, 1), (BILL, 16, 7), (BILL, 1, -1),
    (BILL_ALL, 10000), (PAY, 16, 1), (PAY, 1, 0), (REFUND, 1, E15), (DEPOSIT, 16, 1), (RELEASE, 1, E15),
    (FUND, 16, 1), (FAIL, 3), (RECOVER, 3, 1), (RECOVER, 1, E15), (PAY, 3, E15), (DEPOSIT, 3, E15), (FUND, 3, E15),
]

IN_RANGE = [
    (OPEN, 0, 0, 0), (OPEN, 1000, 10000, E15), (DAY, 0), (DAY, 1000000),
    (ITEM, 1, 0, -E15), (ITEM, 16, 9999, E15), (BILL, 1, 0), (BILL, 16, 9999), (BILL_ALL, 0), (BILL_ALL, 9999),
    (PAY, 1, 1), (PAY, 16, E15), (REFUND, 1, 1), (REFUND, 16, E15), (DEPOSIT, 1, 1), (DEPOSIT, 16, E15),
    (RELEASE, 1, 1), (RELEASE, 16, E15), (FUND, 1, 1), (FUND, 16, E15), (FAIL, 1), (FAIL, 16),
    (RECOVER, 1, 1), (RECOVER, 16, E15),
]

OUT_OF_RANGE = [
    (OPEN, -1, 0, 0), (OPEN, 1001, 0, 0), (OPEN, 0, -1, 0), (OPEN, 0, 10001, 0), (OPEN, 0, 0, -1),
    (OPEN, 0, 0, E15 + 1), (OPEN, -E18, E18, E18), (DAY, -1), (DAY, 1000001), (DAY, E18),
    (ITEM, 0, 0, 0), (ITEM, 17, 0, 0), (ITEM, 1, -1, 0), (ITEM, 1, 10000, 0), (ITEM, 1, 0, -E15 - 1),
    (ITEM, 1, 0, E15 + 1), (BILL, 0, 0), (BILL, 17, 0), (BILL, 1, -1), (BILL, 1, 10000), (BILL_ALL, -1),
    (BILL_ALL, 10000), (FAIL, 0), (FAIL, 17), (FAIL, -1),
] + [(place, member, cents) for place in (PAY, REFUND, DEPOSIT, RELEASE, FUND, RECOVER)
     for member, cents in ((0, 1), (17, 1), (-E18, 1), (1, 0), (1, -1), (1, E15 + 1), (1, E18))]


class Form(unittest.TestCase):
    def test_counts_stand_before_the_answers(self):
        self.assertEqual(answers([1, 0, 5, 100, 0, 1, 3, 1, 2, -7, 8, 1, 0]),
                         [1, -2, 1, 0, 2, 0, 1, 2, 0, -7, 1, -1])

    def test_long_run_with_all_calls(self):
        self.assertEqual(ask(LONG_ROWS), LONG_ANSWERS)

    def test_handed_in_list_stays_as_it_was(self):
        calls = flat(LONG_ROWS)
        before = list(calls)
        answers(calls)
        self.assertEqual(calls, before)

    def test_second_time_gives_the_same(self):
        calls = flat(LONG_ROWS)
        first = answers(calls)
        answers([0, 1, 1, 1, 1, 8, 1, 5])
        self.assertEqual(answers(calls), first)

    def test_answers_are_a_new_list_of_whole_numbers(self):
        calls = flat(LONG_ROWS)
        first = answers(calls)
        self.assertTrue(all([type(number) is int for number in first]))
        first.clear()
        self.assertEqual(ask(LONG_ROWS), LONG_ANSWERS)

    def test_400_calls(self):
        rows = [(OPEN, 0, 0, 0), (MEMBER,)] + [(ITEM, 1, 0, 1)] * 398
        self.assertEqual(ask(rows)[-1], [0, 398])

    def test_number_of_no_call(self):
        for place in (-1, 26):
            with self.assertRaises(UnknownCall):
                answers([place])


class RefusalsOfAll(unittest.TestCase):
    def test_out_of_range(self):
        for row in OUT_OF_RANGE:
            with self.subTest(row=row):
                self.assertEqual(ask_behind([(OPEN, 0, 0, 0), (MEMBER,)], [row]), [[-1]])

    def test_out_of_range_before_not_open(self):
        for row in OUT_OF_RANGE:
            with self.subTest(row=row):
                self.assertEqual(ask([row]), [[-1]])

    def test_ends_of_the_ranges_are_in(self):
        opened = [(OPEN, 0, 0, 0)]
        for row in IN_RANGE:
            with self.subTest(row=row):
                self.assertNotEqual(ask(opened + [row])[-1], [-1])

    def test_not_open_before_all_others(self):
        for row in IN_RANGE + [(MEMBER,)]:
            if row[0] != OPEN:
                with self.subTest(row=row):
                    self.assertEqual(ask([row]), [[-2]])

    def test_no_such_member(self):
        members = [(OPEN, 0, 0, 0)] + [(MEMBER,)] * 3
        two = [(place, 4, 1) for place in (BILL, PAY, REFUND, DEPOSIT, RELEASE, FUND, RECOVER)]
        for row in two + [(ITEM, 4, 1, 1), (FAIL, 4)]:
            with self.subTest(row=row):
                self.assertEqual(ask_behind(members, [row]), [[-5]])

    def test_failed_member(self):
        failed = [(OPEN, 0, 0, 9), (MEMBER,), (ITEM, 1, 0, 1000), (BILL, 1, 0), (DAY, 1), (FAIL, 1)]
        two = [(place, 1, 1) for place in (BILL, PAY, REFUND, DEPOSIT, RELEASE, FUND)]
        for row in two + [(ITEM, 1, 1, 1), (FAIL, 1)]:
            with self.subTest(row=row):
                self.assertEqual(ask_behind(failed, [row]), [[-6]])

    def test_refused_calls_change_nothing(self):
        opened = 4
        for refused in REFUSED_ANYWHERE:
            rows = list(LONG_ROWS[:opened])
            for row in LONG_ROWS[opened:]:
                rows.extend([refused, row])
            with self.subTest(refused=refused):
                found = ask(rows)[opened:]
                self.assertEqual(found[1::2], LONG_ANSWERS[opened:])


if __name__ == "__main__":
    unittest.main()
