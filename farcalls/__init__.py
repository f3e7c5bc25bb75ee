"""Farcalls: far things, called, moved, kept and known lost."""
