"""Straylanes: programs in lanes of remainders, some of which stray."""
