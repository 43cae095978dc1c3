"""Clocks and signals between chips: clocktimes.board.answers answers a list of calls."""
