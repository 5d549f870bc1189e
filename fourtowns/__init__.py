"""Fourtowns: clubs by rules on odd and even."""
