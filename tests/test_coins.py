"""Coins: point 58."""

import math
import random
import unittest

from lanternhouse.coins import pay, sure_amount


def payable(coins, top):
    """Return an integer whose bit number k is 1 if the amount k, at most the top, can be paid."""
    bits, mask = 1, (1 << (top + 1)) - 1
    for coin in coins:
        shift = coin
        while shift <= top:
            bits |= bits << shift & mask
            shift *= 2
    return bits


def slow_sure(coins):
    """Try all amounts; the greatest that cannot be paid is below the product of the least and the greatest coin."""
    divisor = math.gcd(*coins)
    top = min(coins) * max(coins) // divisor + divisor
    bits = payable(coins, top)
    missing = [amount for amount in range(0, top + 1, divisor) if not bits >> amount & 1]
    return missing[-1] + divisor if missing else 0


def coins_to_try(seed, count, most, greatest):
    rng = random.Random(seed)
    made = []
    for _ in range(count):
        factor = rng.choice([1, 1, 2, 3, 6])
        many = rng.randint(1, most)
        made.append([factor * rng.randint(1, max(1, greatest // factor)) for _ in range(many)])
    return made


FEW = [[1], [7], [400], [5, 5], [4, 6], [6, 4], [3, 5], [2, 1], [1, 400], [6, 10, 15], [8, 12], [9, 9, 9], [399, 400]]


class SureAmounts(unittest.TestCase):

    def test_by_hand(self):
        wanted = [0, 0, 0, 0, 4, 4, 8, 0, 0, 30, 8, 0, 398 * 399]
        self.assertEqual([sure_amount(coins) for coins in FEW], wanted)

    def test_against_all_amounts(self):
        for coins in FEW + coins_to_try(300, 150, 6, 60) + coins_to_try(301, 20, 50, 400) + coins_to_try(302, 20, 3, 400):
            self.assertEqual(sure_amount(coins), slow_sure(coins), coins)

    def test_fifty_coins(self):
        coins = list(range(351, 401))
        self.assertEqual(sure_amount(coins), slow_sure(coins))
        self.assertEqual(sure_amount([2 * coin for coin in range(101, 151)]), slow_sure(list(range(101, 151))) * 2)

    def test_order_and_equal_coins_do_not_matter(self):
        for coins in coins_to_try(303, 50, 5, 40):
            wanted = sure_amount(coins)
            self.assertEqual(sure_amount(coins[::-1]), wanted)
            self.assertEqual(sure_amount(coins + coins), wanted)
            self.assertEqual(sure_amount(tuple(sorted(coins))), wanted)

    def test_a_coin_as_large_as_the_divisor(self):
        for coin in (1, 2, 13, 400):
            self.assertEqual(sure_amount([coin * factor for factor in (5, 1, 3)]), 0)


class Paying(unittest.TestCase):

    def check_pay(self, coins, amount, can):
        counts = pay(coins, amount)
        if not can:
            self.assertIsNone(counts, (coins, amount))
            return
        self.assertIsInstance(counts, list)
        self.assertEqual(len(counts), len(coins))
        self.assertTrue(all(isinstance(count, int) and count >= 0 for count in counts))
        self.assertEqual(sum(count * coin for count, coin in zip(counts, coins)), amount, coins)

    def test_every_small_amount(self):
        for coins in FEW + coins_to_try(304, 60, 5, 25):
            bits = payable(coins, 250)
            for amount in range(251):
                self.check_pay(coins, amount, bits >> amount & 1 == 1)

    def test_nothing(self):
        for coins in FEW:
            self.assertEqual(pay(coins, 0), [0] * len(coins))

    def test_near_the_sure_amount(self):
        for coins in FEW + coins_to_try(305, 60, 6, 400):
            sure, divisor = slow_sure(coins), math.gcd(*coins)
            for amount in range(sure, sure + 3 * max(coins) + 1, divisor):
                self.check_pay(coins, amount, True)
            if sure > 0:
                self.check_pay(coins, sure - divisor, False)
            if divisor > 1:
                self.check_pay(coins, sure + 1, False)
                self.check_pay(coins, sure + divisor - 1, False)

    def test_great_amounts(self):
        for coins in FEW + coins_to_try(306, 40, 50, 400):
            divisor = math.gcd(*coins)
            bits = payable(coins, 100000)
            for amount in (100000, 99999, 100000 // divisor * divisor):
                self.check_pay(coins, amount, bits >> amount & 1 == 1)

    def test_equal_coins(self):
        for amount in range(40):
            self.check_pay([5, 3, 5, 3], amount, amount not in (1, 2, 4, 7))

    def test_what_cannot_be_paid(self):
        for coins, amounts in (([4, 6], [1, 2, 3, 5, 7]), ([400], [1, 399, 401]), ([3, 5], [1, 2, 4, 7]), ([2], [1, 99])):
            for amount in amounts:
                self.assertIsNone(pay(coins, amount))


if __name__ == "__main__":
    unittest.main()
