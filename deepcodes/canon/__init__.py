"""Canonical trees of formulas, and the codes of their ways."""
