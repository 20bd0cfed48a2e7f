"""Windowbelt: a small machine, run plainly and in a window."""
