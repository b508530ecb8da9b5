"""Scoreflow: grammars with shares, and what rows of words come to by them."""
