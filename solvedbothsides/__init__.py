"""Formulas over tables of which only some entries are known."""
