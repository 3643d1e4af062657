"""Bellrest: gates with running clocks, for all moments and all rows of deeds."""
