"""Tilegrow: floors grown by rules."""
