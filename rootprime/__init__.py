"""Rootprime: reckoning by a prime, each answer with a paper that a small reader can look through."""
