"""Houses with many trades: trade ledgers, crews, crew walks and exchanges."""

from lanternhouse.deeds import Run
from lanternhouse.errors import BadSteps, NoCrew, NotThere
from lanternhouse.house import need_doors
from lanternhouse.pairs import letters_ahead, need_end_of
from lanternhouse.requirements import need_no_masters, need_odd
from lanternhouse.standing import need_fits, need_hands


def odd_trades(house, letters):
    """Return the list of the trades that occur an odd number of times among the letters."""
    return [trade for trade in house.trades if letters.count(trade) % 2 == 1]


def other_trades(house, trades):
    """Return the list of the trades of the house that are not listed."""
    return [trade for trade in house.trades if trade not in trades]


def without_first(house, trades):
    """Return the listed trades, or the others if the first trade of the house is listed."""
    return other_trades(house, trades) if house.trades[0] in trades else trades


def letters_at(house, standing, room):
    """Return the list of the trades of the hands in the room, and of the letters that its doors have passed."""
    letters = [trade for trade, own in standing.hands if own == room]
    for (first, second, cycle), place in zip(house.doors, standing.places):
        if room in (first, second):
            letters.extend(list(cycle[:place]))
    return letters


def trade_ledgers(house, standing):
    """Return the list of the trade ledgers of the rooms, tuples of 0 and 1."""
    need_fits(house, standing)
    need_no_masters(standing)
    need_odd(house)
    ledgers = []
    for room in range(house.rooms):
        trades = without_first(house, odd_trades(house, letters_at(house, standing, room)))
        ledgers.append(tuple([1 if trade in trades else 0 for trade in house.trades]))
    return ledgers


def unlike_trades(house, start, end):
    """Return the least room whose trade ledgers differ, or None."""
    need_fits(house, start)
    need_fits(house, end)
    need_no_masters(start)
    need_no_masters(end)
    first, second = trade_ledgers(house, start), trade_ledgers(house, end)
    return min([room for room in range(house.rooms) if first[room] != second[room]], default=None)


def crew_of(house, standing):
    """Return the crew of the standing, a list of hands, or None."""
    need_fits(house, standing)
    need_no_masters(standing)
    for room in range(house.rooms):
        if all([(trade, room) in standing.hands for trade in house.trades]):
            return [standing.hands.index((trade, room)) for trade in house.trades]
    return None


def taking_deeds(house, standing, crew, movers, letters, door):
    """Return the deeds for the letters of the door: each mover takes one letter, the crew all others."""
    waiting = {trade: [hand for hand in movers if standing.hands[hand][0] == trade] for trade in house.trades}
    deeds = []
    for letter in letters:
        if len(waiting[letter]) > 0:
            deeds.append((waiting[letter].pop(0), door))
        else:
            deeds.append((crew[house.trades.index(letter)], door))
    return deeds


def crew_walk_deeds(house, standing, crew, door):
    """Return the deeds of a crew walk."""
    letters = letters_ahead(house, standing, door, len(house.doors[door][2]))
    return taking_deeds(house, standing, crew, [], letters, door)


def exchange_letters(house, standing, trades, door, steps):
    """Return the letters that the door passes in an exchange of movers of these trades, or None.

    They are as few whole cycles more than the steps as give each mover a letter
    and each of the crew an even number of letters.
    """
    passed = odd_trades(house, letters_ahead(house, standing, door, steps))
    wanted = odd_trades(house, trades)
    length = len(house.doors[door][2])
    count = steps
    if passed == other_trades(house, wanted):
        # In one cycle more, each trade occurs an odd number of times more.
        count += length
    elif passed != wanted:
        return None
    while True:
        letters = letters_ahead(house, standing, door, count)
        if all([letters.count(trade) >= trades.count(trade) for trade in house.trades]):
            return letters
        count += 2 * length


def exchange_deeds(house, standing, crew, movers, door, steps):
    """Return the deeds of an exchange of movers, none listed twice, or None if it is not possible."""
    trades = [standing.hands[mover][0] for mover in movers]
    letters = exchange_letters(house, standing, trades, door, steps)
    if letters is None:
        return None
    return taking_deeds(house, standing, crew, movers, letters, door)


def need_crew(house, standing, crew):
    """Raise NoCrew if the hands are not a crew."""
    hands = [standing.hands[hand] for hand in crew]
    if [trade for trade, _ in hands] != list(house.trades) or len({room for _, room in hands}) > 1:
        raise NoCrew("the hands are not one of each trade, in their order and in one room")


def need_crew_at_door(house, standing, crew, door):
    """Check the requirements that crew walks and exchanges share."""
    need_fits(house, standing)
    need_hands(standing, crew)
    need_doors(house, [door])
    need_no_masters(standing)
    need_odd(house)
    need_crew(house, standing, crew)
    _, room = standing.hands[crew[0]]
    need_end_of(house, door, room)


def crew_walk(house, standing, crew, door):
    """Return the run of a crew walk through the door."""
    need_crew_at_door(house, standing, crew, door)
    return Run(crew_walk_deeds(house, standing, crew, door))


def exchange(house, standing, crew, movers, door, *, steps=0):
    """Return the run of an exchange of the movers, or None if it is not possible."""
    need_fits(house, standing)
    need_hands(standing, movers)
    need_crew_at_door(house, standing, crew, door)
    for mover in movers:
        if mover in crew:
            raise NotThere(f"hand {mover} is of the crew")
        _, room = standing.hands[mover]
        need_end_of(house, door, room)
    if not 0 <= steps < len(house.doors[door][2]):
        raise BadSteps("an exchange has at least 0 steps, less than the letters of the cycle")
    deeds = exchange_deeds(house, standing, crew, sorted(set(movers)), door, steps)
    return None if deeds is None else Run(deeds)
