"""Letters that are told: restrictions."""
