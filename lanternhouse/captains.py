"""Two captains who move in turns in a dead standing."""

from lanternhouse.farewell import farewell, farewell_count
from lanternhouse.mirror import exchanged


def winner(house, standing, *, first):
    """Return the trade of the captain who wins if the captain of the trade `first` moves first."""
    second = exchanged(first)
    if farewell_count(house, standing, first) > farewell_count(house, standing, second):
        return first
    return second


def captain_deed(house, standing, trade):
    """Return a deed with which the captain of the trade plays well, or None."""
    deeds = farewell(house, standing, trade).deeds
    # The rest of a longest run is a longest one after its first deed.
    return deeds[0] if len(deeds) > 0 else None
