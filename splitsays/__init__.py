"""Splitsays: sayings about what was and will be, told apart."""
