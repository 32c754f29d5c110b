"""Allelse: wishes that hang on other choices, all else alike."""
