"""Lessons, with which hands change their trades, and plans that use them."""

from lanternhouse.errors import NotPossible, UnlikeHands
from lanternhouse.gathering import gathered, settled
from lanternhouse.ledgers import unlike_room
from lanternhouse.mirror import exchanged
from lanternhouse.planner import fullest_room, parted
from lanternhouse.reach import need_live, need_rooted
from lanternhouse.requirements import BLUE, RED, need_odd, need_three_hands, need_two_trades
from lanternhouse.standing import Standing, need_fits, need_hands, trades_of
from lanternhouse.trails import run_of


def may_learn(standing, hand):
    """Tell whether another red and another blue stand in the room of the hand."""
    _, room = standing.hands[hand]
    others = standing.hands[:hand] + standing.hands[hand + 1:]
    return (RED, room) in others and (BLUE, room) in others


def can_learn(house, standing, hand):
    """Tell whether the hand may take a lesson."""
    need_fits(house, standing)
    need_hands(standing, [hand])
    need_two_trades(house, standing)
    return may_learn(standing, hand)


def learn(house, standing, hand):
    """Return the standing after the lesson of the hand."""
    if not can_learn(house, standing, hand):
        raise NotPossible(hand, None)
    hands = list(standing.hands)
    trade, room = hands[hand]
    hands[hand] = (exchanged(trade), room)
    return Standing(hands, standing.places)


def lessons_between(trades, wanted):
    """Return the hands whose lessons, in order, give hands in one room the wanted trades.

    There are at least three hands, and both trades before and afterwards.
    """
    red, blue = wanted.index(RED), wanted.index(BLUE)
    others = [hand for hand in range(len(wanted)) if hand not in (red, blue)]
    lessons = []
    trades = list(trades)
    if trades[red] == BLUE and trades.count(BLUE) == 1:
        # The only blue cannot learn, so another hand becomes a blue before.
        lessons.append(others[0])
        trades[others[0]] = BLUE
    # Once the red and the blue are what they have to be, all others can learn.
    return lessons + [hand for hand in [red, blue] + others if trades[hand] != wanted[hand]]


def need_school_parts(house, start, end):
    """Check all requirements of a school plan."""
    need_fits(house, start)
    need_fits(house, end)
    if len(start.hands) != len(end.hands):
        raise UnlikeHands("the two standings have other numbers of hands")
    need_two_trades(house, start)
    need_two_trades(house, end)
    need_odd(house)
    need_three_hands(start)
    need_live(house, start)
    need_rooted(house, end)


def school_plan(house, start, end):
    """Return (school plan, None), or (None, least unlike room)."""
    need_school_parts(house, start, end)
    unlike = unlike_room(house, start, end)
    if unlike is not None:
        return None, unlike
    room = fullest_room(house, start, end)
    first = gathered(house, start, room)
    target, last_pieces = parted(house, end, room)
    lessons = lessons_between(trades_of(start), trades_of(end))
    taught = Standing(target.hands, first.standing.places)
    second = settled(house, taught, target).pieces + last_pieces
    return (run_of(first.pieces), lessons, run_of(second)), None
