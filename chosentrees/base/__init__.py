"""Symbols and grammars."""
