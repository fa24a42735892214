"""Guesshush: programs that keep secrets from a machine that guesses."""
