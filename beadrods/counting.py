"""How many moves counting takes, on plain settings."""

from beadrods.errors import NoNumber
from beadrods.moves import apart, rod_apart
from beadrods.settings import check_asked, check_number, plain_rods

MOST_STEPS = 999


# The settings that counting goes over, that of the first number first.
def way_up(manner, rods, first, last):
    check_asked(manner, rods, first)
    check_number(last)
    if not 0 <= last - first <= MOST_STEPS:
        raise NoNumber("counting goes from a number to one that is no less, and no more than 999 more")
    return [plain_rods(manner, rods, number) for number in range(first, last + 1)]


def moves_up(manner, rods, first, last):
    return sum(by_rods(manner, rods, first, last))


def by_rods(manner, rods, first, last):
    way = way_up(manner, rods, first, last)
    return [moves_on_rod([setting[place] for setting in way]) for place in range(rods)]


def moves_on_rod(way):
    return sum([rod_apart(rod, goal) for rod, goal in zip(way, way[1:])])


# Of several steps that take the most moves the first one is kept.
def busiest_step(manner, rods, first, last):
    way = way_up(manner, rods, first, last)
    moves = [apart(setting, goal) for setting, goal in zip(way, way[1:])]
    if not moves:
        return None
    most = max(moves)
    return (first + moves.index(most), most)
