"""Coins: which amounts can be paid with them, and how."""

from heapq import heappop, heappush
from math import gcd


def common_divisor(numbers):
    """Return the greatest number that divides all the numbers."""
    divisor = 0
    for number in numbers:
        divisor = gcd(divisor, number)
    return divisor


def least_amounts(coins):
    """Find the least amounts for the remainders that a division by the least coin leaves.

    Return two dicts over the remainders: the least amount with this remainder
    that can be paid, and the position of the coin that is paid last for it.
    The amount 0 has no last coin.
    """
    least = min(coins)
    amount_to = {0: 0}
    coin_to = {}
    queue = [0]
    while queue:
        amount = heappop(queue)
        if amount > amount_to[amount % least]:
            continue
        for at, coin in enumerate(coins):
            total = amount + coin
            if total % least not in amount_to or total < amount_to[total % least]:
                amount_to[total % least] = total
                coin_to[total % least] = at
                heappush(queue, total)
    return amount_to, coin_to


def sure_amount(coins):
    """Return the sure amount of the coins."""
    amount_to, _ = least_amounts(coins)
    # With any amount, the least coin more can be paid, too: so this is one
    # step behind the greatest multiple that cannot be paid.
    return max(amount_to.values()) - min(coins) + common_divisor(coins)


def pay(coins, amount):
    """Return how often each coin is used to pay the amount, or None if it cannot be paid."""
    amount_to, coin_to = least_amounts(coins)
    least = min(coins)
    rest = amount % least
    if rest not in amount_to or amount_to[rest] > amount:
        return None
    counts = [0] * len(coins)
    counts[coins.index(least)] = (amount - amount_to[rest]) // least
    while rest in coin_to:
        at = coin_to[rest]
        counts[at] += 1
        rest = (rest - coins[at]) % least
    return counts
