"""Silentbeats: voices on a clock, read at the divisors of its size."""
