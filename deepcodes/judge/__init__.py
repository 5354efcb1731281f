"""The checker of papers, and the answers that it takes."""
