"""Waves and turns: how tables agree with sums of letters."""
