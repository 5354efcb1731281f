"""Letters: inputs, tables, terms and formulas."""
