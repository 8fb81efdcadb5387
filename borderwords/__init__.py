"""Borderwords: what words about where lands lie say, together."""
