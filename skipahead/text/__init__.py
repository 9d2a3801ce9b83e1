"""Texts of values, and columns that show lines and runs."""
