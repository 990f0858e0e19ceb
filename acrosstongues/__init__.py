"""Senses of three tongues, which of them say the same, and what follows."""
