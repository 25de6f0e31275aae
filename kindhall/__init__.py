"""Kindhall: what follows of sayings about kinds, ties and things."""
