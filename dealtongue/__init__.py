"""Dealtongue: a language of agreements."""
