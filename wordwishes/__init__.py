"""Wordwishes: signs that cancel, and rows of words that are sentences."""
