"""Chosentrees: the trees that a parser with resolved conflicts builds, for all texts."""
