"""Samefromhere: hands without names in any net."""
