"""Penhome: equations between all runs of drawing programs."""
