"""Parsers and their runs."""
