"""Papers of benches, and reading them."""

from beadrods.benches import Bench, is_name
from beadrods.errors import NoText
from beadrods.manners import MOST_PARTS, is_manner
from beadrods.texts import check_ended, read_setting, setting_text


def bench_text(bench):
    pieces = [manner_text(bench.manner) + "\n" + setting_text(bench.manner, bench.now)]
    for name in bench.names():
        pieces.append("= " + name + "\n" + setting_text(bench.manner, bench.kept[name]))
    return "".join(pieces)


def manner_text(manner):
    return " ".join([str(part) for part in manner])


# Lines of names alone begin with "= ", so there the text is cut; each piece is a line and a drawing.
def read_bench(text):
    check_ended(text)
    pieces = [piece.partition("\n") for piece in text[:-1].split("\n= ")]
    manner = read_manner(pieces[0][0])
    settings = [read_setting(manner, piece[2] + "\n") for piece in pieces]
    check_lengths(settings)
    names = [piece[0] for piece in pieces[1:]]
    check_names(names)
    bench = Bench(manner, len(settings[0]))
    bench.now = settings[0]
    bench.kept = dict(zip(names, settings[1:]))
    return bench


# Held against how numbers are written, as int would also take signs, blanks and noughts ahead.
def read_manner(line):
    written = [str(number) for number in range(max(MOST_PARTS) + 1)]
    parts = line.split(" ")
    if not all([part in written for part in parts]):
        raise NoText("a part of the manner is no number of one")
    manner = tuple([written.index(part) for part in parts])
    if not is_manner(manner):
        raise NoText("the first line is no manner")
    return manner


# What a bench keeps has as many rods as the bench.
def check_lengths(settings):
    if not all([len(setting) == len(settings[0]) for setting in settings]):
        raise NoText("the drawings have not as many rods each")


def check_names(names):
    if not all([is_name(name) for name in names]) or names != sorted(set(names)):
        raise NoText("the names are not names that are rising")
