"""Moves of single beads, and the fewest that lead from one setting to another."""

from beadrods.errors import NoMove
from beadrods.manners import is_rod
from beadrods.settings import check_number, check_setting, last_rods, number_on
from beadrods.wholes import is_whole

# In the order in which moves are told.
DECKS = ("upper", "lower")
WAYS = (1, -1)


def is_move(manner, setting, thing):
    check_setting(manner, setting)
    return can_move(manner, setting, thing)


def can_move(manner, setting, thing):
    if not names_beads(setting, thing):
        return False
    return is_rod(manner, pushed(setting[thing[0]], thing[1], thing[2]))


# Asked ahead of whether there are beads, as a thing of another form names no rod of which to ask that.
def names_beads(setting, thing):
    if not isinstance(thing, tuple) or len(thing) != 3:
        return False
    if not is_whole(thing[0], 0, len(setting) - 1) or thing[1] not in DECKS:
        return False
    return is_whole(thing[2], -1, 1) and thing[2] != 0


def pushed(rod, deck, by):
    if deck == "upper":
        return (rod[0] + by, rod[1])
    return (rod[0], rod[1] + by)


def behind_move(setting, move):
    at = move[0]
    return setting[:at] + (pushed(setting[at], move[1], move[2]),) + setting[at + 1:]


def moved(manner, setting, move):
    check_setting(manner, setting)
    if not can_move(manner, setting, move):
        raise NoMove("this is no move that there are beads for")
    return behind_move(setting, move)


def all_moves(manner, setting):
    check_setting(manner, setting)
    told = []
    for rod in range(len(setting)):
        for deck in DECKS:
            several = [(rod, deck, by) for by in WAYS]
            told.extend([move for move in several if can_move(manner, setting, move)])
    return told


def run(manner, setting, moves):
    check_setting(manner, setting)
    if not isinstance(moves, list):
        raise NoMove("moves stand in a list")
    now = setting
    for move in moves:
        now = moved(manner, now, move)
    return now


# A move shifts one bead, and no bead is in the way of another: so the fewest are the beads that differ.
def apart(one, other):
    return sum([rod_apart(rod, goal) for rod, goal in zip(one, other)])


def rod_apart(rod, goal):
    return abs(goal[0] - rod[0]) + abs(goal[1] - rod[1])


def moves_to(manner, one, other):
    check_setting(manner, one)
    check_setting(manner, other)
    if len(one) != len(other):
        raise NoMove("no move changes how many rods there are")
    told = []
    for at, rod in enumerate(one):
        for deck, name in enumerate(DECKS):
            told.extend(deck_moves(at, name, other[at][deck] - rod[deck]))
    return told


def deck_moves(at, deck, change):
    by = 1 if change > 0 else -1
    return [(at, deck, by)] * abs(change)


# Rods differ one by one, so of all ends that leave the same to the rods ahead only the nearest is kept.
def nearest(manner, setting, number):
    check_setting(manner, setting)
    check_number(number)
    ends = {number: ()}
    for ahead in range(len(setting) - 1, -1, -1):
        ends = nearest_ends(manner, setting, ahead, ends)
    return ends.get(0)


def nearest_ends(manner, setting, ahead, ends):
    here = setting[ahead:]
    longer = {}
    for number in ends:
        for rod, left in last_rods(manner, ahead, number):
            end = (rod,) + ends[number]
            if left not in longer or apart(here, end) < apart(here, longer[left]):
                longer[left] = end
    return longer


def fewest_moves(manner, setting, number):
    found = nearest(manner, setting, number)
    if found is None:
        return None
    return apart(setting, found)


def slips(manner, setting, number):
    check_setting(manner, setting)
    check_number(number)
    several = all_moves(manner, setting)
    return [move for move in several if number_on(manner, behind_move(setting, move)) == number]
