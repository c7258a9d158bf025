"""Pointorstrip: whole-number shortcuts, decided for all numbers."""
