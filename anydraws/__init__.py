"""Anydraws: what draws tell of a distribution that nobody told, by exact fractions."""
