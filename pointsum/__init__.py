"""All points of a cubic curve over the fractions."""
