"""Anyseven: what is told of all stretches of some lengths."""
