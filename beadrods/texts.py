"""Drawings of settings, and reading them."""

from beadrods.errors import NoText
from beadrods.manners import all_rods, check_manner
from beadrods.settings import MOST_RODS, check_setting


def rod_text(manner, rod):
    return "o" * (manner[0] - rod[0]) + "." + "o" * rod[0] + "|" + "o" * rod[1] + "." + "o" * (manner[2] - rod[1])


def setting_text(manner, setting):
    check_setting(manner, setting)
    return "".join([rod_text(manner, rod) + "\n" for rod in setting])


# Lines are held against those of all rods there are, so nothing but a drawing can be read.
def read_setting(manner, text):
    check_manner(manner)
    check_ended(text)
    known = rods_by_line(manner)
    lines = text[:-1].split("\n")
    if len(lines) > MOST_RODS or not all([line in known for line in lines]):
        raise NoText("this is no drawing of a setting of the manner")
    return tuple([known[line] for line in lines])


def check_ended(text):
    if not isinstance(text, str) or not text.endswith("\n"):
        raise NoText("this is no text whose last line is ended by a line feed")


def rods_by_line(manner):
    known = {}
    for rod in all_rods(manner):
        known[rod_text(manner, rod)] = rod
    return known
