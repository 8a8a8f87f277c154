import unittest

from marketaccounts.desk import UnknownCall, answers
from tests.helper import (BALANCE, BILL, BILL_ALL, CLOSE, DAY, DEPOSIT, E15, E18, FAIL, FAILURE, FUND, INVOICE,
                          INVOICES, ITEM, LEDGER, LOSS, MEMBER, OPEN, OVERDUE, PAY, PREVIEW, RECKON, RECOVER, REFUND,
                          RELEASE, SHORT, TAXES, TOTAL, ask, ask_behind, flat, house_behind, snapshot, step)

LONG_ROWS = [
    (OPEN, 10, 2000, 50), (MEMBER,), (MEMBER,), (MEMBER,), (FUND, 2, 30), (FUND, 3, 10), (DEPOSIT, 1, 20),
    (FUND, 1, 5), (ITEM, 1, 7, 100999), (ITEM, 2, 7, -5500), (BILL, 1, 7), (BILL_ALL, 7), (PAY, 1, 1), (PAY, 2, 3),
    (REFUND, 2, 2), (RELEASE, 1, 1), (DAY, 11), (FAIL, 1), (RECOVER, 1, 10), (RECOVER, 1, 30), (MEMBER,),
    (RECOVER, 1, 10), (LEDGER,), (FAILURE, 1), (TOTAL, 2, 7), (INVOICE, 2), (CLOSE, 7), (TAXES, 7),
    (ITEM, 2, 8, 14321), (PREVIEW, 2, 8), (RECKON, -5500), (SHORT,), (BILL, 2, 8), (INVOICES, 2), (BALANCE, 2),
    (DAY, 22), (OVERDUE,), (DEPOSIT, 2, 12), (RELEASE, 2, 3), (LOSS, 77, 10, 20, 30, 2, 4, 6), (LEDGER,),
]
LONG_ANSWERS = [
    [0], [0, 1], [0, 2], [0, 3], [0, 30], [0, 10], [0, 20],
    [0, 5], [0, 100999], [0, -5500], [0, 1, 1, 1, 100, 20], [0, 1, 2, 2, -6, -1], [0, 119, 0], [0, 0, 10],
    [0, 8], [-9], [0], [0, 119, 20, 5, 50, 4, 0, 30, 10], [0, 4, 6, 0, 0, 5, 1], [0, 0, 30, 0, 0, 22, 8], [0, 4],
    [0, 0, 4, 6, 0, 3, 1], [0, -95499, 1499, -19, 167, 6, 0, 0], [0, 119, 20, 5, 50, 4, 44, 0, 0, 0, 0],
    [0, -5500, -5500, -6, -1], [0, 2, 7, -6, -1, 10, 0], [0], [0, 19],
    [0, 14321], [0, 14, 3], [0, -6, -1], [0, 1, 2, 7], [0, 1, 3, 2, 14, 3], [0, 1, 3, 21, 9],
    [0, 0, 9, 0, 0, 30, 0, 9000],
    [0], [0, 1, 3, 2, 9], [0, 12], [0, 9], [0, 10, 20, 30, 7, 4, 6], [0, -109820, 1820, -22, 176, 6, 0, 0],
]

REFUSED_ANYWHERE = [
    (OPEN, 1, 1, 1), (OPEN, -1, 1, 1), (DAY, 0), (ITEM, 16, 7, 1), (ITEM, 0, 7, 1), (BILL, 16, 7), (BILL, 1, -1),
    (BILL_ALL, 10000), (PAY, 16, 1), (PAY, 1, 0), (REFUND, 1, E15), (DEPOSIT, 16, 1), (RELEASE, 1, E15),
    (FUND, 16, 1), (FAIL, 3), (RECOVER, 3, 1), (RECOVER, 1, E15), (PAY, 3, E15), (DEPOSIT, 3, E15), (FUND, 3, E15),
    (CLOSE, 10000), (TOTAL, 16, 7), (TOTAL, 1, -1), (INVOICE, 256), (INVOICE, 0), (INVOICES, 16), (BALANCE, 16),
    (TAXES, -1), (FAILURE, 3), (FAILURE, 16), (PREVIEW, 16, 7), (LOSS, 5, -1, 0, 0, 0), (LOSS, 5, 0, 0, 0, 2, 1, -1),
    (LOSS, 5, 0, 0, 0, 17) + (1,) * 17,
]

IN_RANGE = [
    (OPEN, 0, 0, 0), (OPEN, 1000, 10000, E15), (DAY, 0), (DAY, 1000000),
    (ITEM, 1, 0, -E15), (ITEM, 16, 9999, E15), (BILL, 1, 0), (BILL, 16, 9999), (BILL_ALL, 0), (BILL_ALL, 9999),
    (PAY, 1, 1), (PAY, 16, E15), (REFUND, 1, 1), (REFUND, 16, E15), (DEPOSIT, 1, 1), (DEPOSIT, 16, E15),
    (RELEASE, 1, 1), (RELEASE, 16, E15), (FUND, 1, 1), (FUND, 16, E15), (FAIL, 1), (FAIL, 16),
    (RECOVER, 1, 1), (RECOVER, 16, E15), (CLOSE, 0), (CLOSE, 9999), (TOTAL, 1, 0), (TOTAL, 16, 9999),
    (INVOICE, 1), (INVOICE, 256), (INVOICES, 1), (INVOICES, 16), (BALANCE, 1), (BALANCE, 16), (TAXES, 0),
    (TAXES, 9999), (FAILURE, 1), (FAILURE, 16), (PREVIEW, 1, 0), (PREVIEW, 16, 9999), (RECKON, -E18), (RECKON, E18),
    (LOSS, 0, 0, 0, 0, 0), (LOSS, E15, E15, E15, E15, 0), (LOSS, 0, 0, 0, 0, 1, 0), (LOSS, 0, 0, 0, 0, 1, E15),
    (LOSS, E15, E15, E15, E15, 16) + (E15,) * 16,
]
WITHOUT_ARGUMENTS = [(MEMBER,), (SHORT,), (OVERDUE,), (LEDGER,)]

OUT_OF_RANGE = [
    (OPEN, -1, 0, 0), (OPEN, 1001, 0, 0), (OPEN, 0, -1, 0), (OPEN, 0, 10001, 0), (OPEN, 0, 0, -1),
    (OPEN, 0, 0, E15 + 1), (OPEN, -E18, E18, E18), (DAY, -1), (DAY, 1000001), (DAY, E18),
    (ITEM, 0, 0, 0), (ITEM, 17, 0, 0), (ITEM, 1, -1, 0), (ITEM, 1, 10000, 0), (ITEM, 1, 0, -E15 - 1),
    (ITEM, 1, 0, E15 + 1), (BILL, 0, 0), (BILL, 17, 0), (BILL, 1, -1), (BILL, 1, 10000), (BILL_ALL, -1),
    (BILL_ALL, 10000), (FAIL, 0), (FAIL, 17), (FAIL, -1), (CLOSE, -1), (CLOSE, 10000), (CLOSE, E18),
    (INVOICE, 0), (INVOICE, 257), (INVOICE, -E18), (INVOICE, E18), (TAXES, -1), (TAXES, 10000), (TAXES, -E18),
    (RECKON, -E18 - 1), (RECKON, E18 + 1),
    (LOSS, -1, 0, 0, 0, 0), (LOSS, 0, -1, 0, 0, 0), (LOSS, 0, 0, -1, 0, 0), (LOSS, 0, 0, 0, -1, 0),
    (LOSS, E15 + 1, 0, 0, 0, 0), (LOSS, 0, E15 + 1, 0, 0, 0), (LOSS, 0, 0, E15 + 1, 0, 0),
    (LOSS, 0, 0, 0, E15 + 1, 0), (LOSS, E18, -E18, E18, -E18, 1, 1),
    (LOSS, 0, 0, 0, 0, 1, -1), (LOSS, 0, 0, 0, 0, 1, E15 + 1), (LOSS, 0, 0, 0, 0, 3, 1, 1, -E18),
    (LOSS, 0, 0, 0, 0, 16) + (1,) * 15 + (E15 + 1,), (LOSS, 0, 0, 0, 0, 17) + (0,) * 17,
    (LOSS, 0, 0, 0, 0, 200) + (0,) * 200, (LOSS, 0, 0, 0, 0, 200) + (E18,) * 200,
]
OUT_OF_RANGE += [(place, member) for place in (INVOICES, BALANCE, FAILURE) for member in (0, 17, -E18, E18)]
OUT_OF_RANGE += [(place, member, period) for place in (TOTAL, PREVIEW)
                 for member, period in ((0, 0), (17, 0), (1, -1), (1, 10000), (-E18, 0), (1, E18))]
OUT_OF_RANGE += [(place, member, cents) for place in (PAY, REFUND, DEPOSIT, RELEASE, FUND, RECOVER)
                 for member, cents in ((0, 1), (17, 1), (-E18, 1), (1, 0), (1, -1), (1, E15 + 1), (1, E18))]


class Form(unittest.TestCase):
    def test_counts_stand_before_the_answers(self):
        self.assertEqual(answers([1, 0, 5, 100, 0, 1, 3, 1, 2, -7, 8, 1, 0]),
                         [1, -2, 1, 0, 2, 0, 1, 2, 0, -7, 1, -1])

    def test_long_run_with_all_calls(self):
        self.assertEqual(ask(LONG_ROWS), LONG_ANSWERS)

    def test_handed_in_list_stays_as_it_was(self):
        calls = flat(LONG_ROWS)
        before = list(calls)
        answers(calls)
        self.assertEqual(calls, before)

    def test_second_time_gives_the_same(self):
        calls = flat(LONG_ROWS)
        first = answers(calls)
        answers([0, 1, 1, 1, 1, 8, 1, 5])
        self.assertEqual(answers(calls), first)

    def test_answers_are_a_new_list_of_whole_numbers(self):
        calls = flat(LONG_ROWS)
        first = answers(calls)
        self.assertTrue(all([type(number) is int for number in first]))
        first.clear()
        self.assertEqual(ask(LONG_ROWS), LONG_ANSWERS)

    def test_400_calls_with_every_one_of_the_26(self):
        rows = list(LONG_ROWS)
        expected = list(LONG_ANSWERS)
        told = 0
        while len(rows) < 400:
            told += 1
            rows += [(ITEM, 4, 9, 1), (TOTAL, 4, 9), (LEDGER,)]
            expected += [[0, told], [0, told, 0, 0, 0], [0, -109820 - told, 1820, -22, 176, 6, 0, 0]]
        self.assertEqual({row[0] for row in rows}, set(range(26)))
        self.assertEqual(ask(rows[:400]), expected[:400])

    def test_ledger_behind_every_row_sums_up_to_0(self):
        rows = flat([(row, (LEDGER,)) for row in LONG_ROWS])
        found = ask(rows)
        self.assertEqual(found[::2], LONG_ANSWERS)
        self.assertEqual([answer[-1] for answer in found[1::2]], [0] * len(LONG_ROWS))

    def test_calls_behind_a_second_row_are_read_on(self):
        for count in (0, 1, 16, 17, 200):
            row = (LOSS, 0, 0, 0, 0, count) + (13,) * count
            expected = [0] * (5 + count) if count <= 16 else [-1]
            with self.subTest(count=count):
                self.assertEqual(ask_behind([(OPEN, 0, 0, 0)], [row, (MEMBER,)]), [expected, [0, 1]])

    def test_number_of_no_call(self):
        for place in (-1, 26):
            with self.assertRaises(UnknownCall):
                answers([place])


class RefusalsOfAll(unittest.TestCase):
    def test_out_of_range(self):
        for row in OUT_OF_RANGE:
            with self.subTest(row=row):
                self.assertEqual(ask_behind([(OPEN, 0, 0, 0), (MEMBER,)], [row]), [[-1]])

    def test_out_of_range_before_not_open(self):
        for row in OUT_OF_RANGE:
            with self.subTest(row=row):
                self.assertEqual(ask([row]), [[-1]])

    def test_ends_of_the_ranges_are_in(self):
        opened = [(OPEN, 0, 0, 0)]
        for row in IN_RANGE:
            with self.subTest(row=row):
                self.assertNotEqual(ask(opened + [row])[-1], [-1])

    def test_not_open_before_all_others(self):
        for row in IN_RANGE + WITHOUT_ARGUMENTS:
            if row[0] != OPEN:
                with self.subTest(row=row):
                    self.assertEqual(ask([row]), [[-2]])

    def test_no_such_member(self):
        members = [(OPEN, 0, 0, 0)] + [(MEMBER,)] * 3
        two = [(place, 4, 1) for place in (BILL, PAY, REFUND, DEPOSIT, RELEASE, FUND, RECOVER, TOTAL, PREVIEW)]
        for row in two + [(ITEM, 4, 1, 1), (FAIL, 4), (INVOICES, 4), (BALANCE, 4)]:
            with self.subTest(row=row):
                self.assertEqual(ask_behind(members, [row]), [[-5]])

    def test_failed_member(self):
        failed = [(OPEN, 0, 0, 9), (MEMBER,), (ITEM, 1, 0, 1000), (BILL, 1, 0), (DAY, 1), (FAIL, 1)]
        two = [(place, 1, 1) for place in (BILL, PAY, REFUND, DEPOSIT, RELEASE, FUND)]
        for row in two + [(ITEM, 1, 1, 1), (FAIL, 1)]:
            with self.subTest(row=row):
                self.assertEqual(ask_behind(failed, [row]), [[-6]])

    def test_refused_calls_change_nothing(self):
        opened = 4
        for refused in REFUSED_ANYWHERE:
            rows = list(LONG_ROWS[:opened])
            for row in LONG_ROWS[opened:]:
                rows.extend([refused, row])
            with self.subTest(refused=refused):
                found = ask(rows)[opened:]
                self.assertEqual(found[1::2], LONG_ANSWERS[opened:])
                self.assertTrue(all([len(answer) == 1 and answer[0] < 0 for answer in found[::2]]))


class AskingChangesNothing(unittest.TestCase):
    def test_answers_of_the_other_calls_stay(self):
        asking = [(TOTAL, 1, 7), (INVOICE, 1), (INVOICES, 1), (BALANCE, 2), (SHORT,), (OVERDUE,), (LEDGER,), (TAXES, 7),
                  (FAILURE, 1), (PREVIEW, 1, 7), (PREVIEW, 2, 9), (TOTAL, 3, 9), (RECKON, 1234567),
                  (LOSS, 9, 1, 1, 1, 1, 5)]
        opened = 4
        for asked in asking:
            rows = flat([(asked, row) for row in LONG_ROWS[opened:]])
            with self.subTest(asked=asked):
                self.assertEqual(ask(LONG_ROWS[:opened] + rows)[opened + 1::2], LONG_ANSWERS[opened:])

    def test_house_stays(self):
        rows = [row for row, answer in zip(LONG_ROWS, LONG_ANSWERS) if answer[0] == 0]
        house = house_behind(rows)
        before = snapshot(house)
        for row in [row for row in IN_RANGE + WITHOUT_ARGUMENTS + rows if row[0] >= TOTAL]:
            with self.subTest(row=row):
                self.assertEqual(snapshot(step(house, row)[0]), before)


if __name__ == "__main__":
    unittest.main()
