"""Texts of values, and a bench that is told line by line."""
