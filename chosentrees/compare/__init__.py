"""Parsers compared, the cells that runs meet, and grammars written out."""
