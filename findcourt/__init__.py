"""Findcourt: texts found exactly, by pieces, stamps and papers."""
