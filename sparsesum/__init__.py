"""Sparsesum: numbers as sums of members without neighbours."""
