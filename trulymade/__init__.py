"""Trulymade: things made by things, and whether they are what they claim to be."""
