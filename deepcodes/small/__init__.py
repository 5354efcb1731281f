"""Small bushes and circuits: what needs many leaves, and what counts by thirds cannot tell."""
