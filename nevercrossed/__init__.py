"""Figures on squared paper drawn in the fewest lines that never cross."""
