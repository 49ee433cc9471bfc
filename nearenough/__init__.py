"""Nearenough: quick rules that are never worse than a told factor."""
