"""Commutative groups and complexes over the integers, with papers."""
