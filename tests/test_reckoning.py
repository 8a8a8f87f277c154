import unittest

from marketaccounts.reckoning import cents_of_total, loss_borne, split_by_weights, tax_on_cents


class CentsAndTax(unittest.TestCase):
    def test_cents_are_rounded_down(self):
        totals = [0, 1, 999, 1000, 1001, -1, -999, -1000, -1001, 10 ** 18, -10 ** 18]
        cents = [0, 0, 0, 1, 1, -1, -1, -1, -2, 10 ** 15, -10 ** 15]
        self.assertEqual([cents_of_total(total) for total in totals], cents)

    def test_halves_of_tax_go_up(self):
        self.assertEqual([tax_on_cents(cents, 5000) for cents in (0, 1, 2, 3, -1, -2, -3)], [0, 1, 1, 2, 0, -1, -1])
        self.assertEqual([tax_on_cents(cents, 1) for cents in (4999, 5000, -5000, -5001)], [0, 1, 0, -1])

    def test_ends_of_the_rate(self):
        self.assertEqual([tax_on_cents(cents, 0) for cents in (7, -7)], [0, 0])
        self.assertEqual([tax_on_cents(cents, 10000) for cents in (7, -7)], [7, -7])


class Split(unittest.TestCase):
    def test_by_greatest_remainders(self):
        self.assertEqual(split_by_weights(10, [1, 2, 4]), [1, 3, 6])
        self.assertEqual(split_by_weights(7, [3, 3, 4]), [2, 2, 3])

    def test_earlier_one_first_at_equal_remainders(self):
        self.assertEqual(split_by_weights(2, [1, 1, 1]), [1, 1, 0])
        self.assertEqual(split_by_weights(1, [0, 5, 5]), [0, 1, 0])
        self.assertEqual(split_by_weights(5, [1, 2, 1]), [1, 3, 1])

    def test_weights_of_0(self):
        self.assertEqual(split_by_weights(9, [0, 0]), [0, 0])
        self.assertEqual(split_by_weights(9, []), [])
        self.assertEqual(split_by_weights(9, [0, 4, 0]), [0, 9, 0])

    def test_nothing_to_split(self):
        self.assertEqual(split_by_weights(0, [3, 4]), [0, 0])

    def test_great_numbers_stay_whole(self):
        self.assertEqual(split_by_weights(10 ** 15, [10 ** 15, 10 ** 15 - 1, 1]),
                         [5 * 10 ** 14, 5 * 10 ** 14, 0])
        self.assertEqual(sum(split_by_weights(10 ** 15 - 1, [10 ** 15] * 16)), 10 ** 15 - 1)


class LossBorne(unittest.TestCase):
    def numbers(self, loss, others):
        return loss_borne(loss, 10, 20, 30, others).as_numbers()

    def test_each_bears_in_its_turn(self):
        self.assertEqual(self.numbers(0, [4, 6]), [0, 0, 0, 0, 0, 0])
        self.assertEqual(self.numbers(10, [4, 6]), [10, 0, 0, 0, 0, 0])
        self.assertEqual(self.numbers(11, [4, 6]), [10, 1, 0, 0, 0, 0])
        self.assertEqual(self.numbers(31, [4, 6]), [10, 20, 1, 0, 0, 0])
        self.assertEqual(self.numbers(65, [4, 6]), [10, 20, 30, 0, 2, 3])
        self.assertEqual(self.numbers(70, [4, 6]), [10, 20, 30, 0, 4, 6])
        self.assertEqual(self.numbers(77, [4, 6]), [10, 20, 30, 7, 4, 6])

    def test_no_others(self):
        self.assertEqual(self.numbers(61, []), [10, 20, 30, 1])
        self.assertEqual(self.numbers(61, [0, 0]), [10, 20, 30, 1, 0, 0])


if __name__ == "__main__":
    unittest.main()
