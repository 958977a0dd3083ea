"""Wishmart: markets of straight wishes."""
