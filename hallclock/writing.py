"""Writes a hall as its text."""

from hallclock.stations import station_of


def written(hall):
    return "\n".join([station_of(told).shown() for told in hall])
