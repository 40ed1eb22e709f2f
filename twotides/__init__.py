"""Twotides: where water that overshoots comes to rest."""
