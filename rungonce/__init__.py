"""Rungonce: rows of bells, each of which is rung once."""
