"""Automatics: statements about numbers and their digits."""
