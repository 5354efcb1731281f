"""What tells the sum of all letters."""
