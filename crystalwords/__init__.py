"""Crystalwords: patterns that come again, told exactly."""
