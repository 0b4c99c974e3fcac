"""Hallclock: halls of waiting, run by a clock of events."""
