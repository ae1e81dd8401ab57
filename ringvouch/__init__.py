"""Ringvouch: marks round a ring told from other marks, without beginning or direction."""
