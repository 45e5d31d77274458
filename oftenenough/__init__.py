"""Oftenenough: things that each must come once in any so many days."""
