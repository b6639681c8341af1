"""Throughlines: the house in which lines that carry over one another's rails settle."""
