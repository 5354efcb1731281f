"""Deepcodes: restrictions of formulas, and what low circuits cannot tell."""
