"""Leasttolls: roads that take toll, and whether one purse is enough for all words."""
