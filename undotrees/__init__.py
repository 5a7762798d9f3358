"""Undotrees: rows of deeds that may not always be done, and their contraries."""
