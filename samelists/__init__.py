"""Samelists: programs about lists that names share, decided for all starts at once."""
