"""Leafround: a notebook that several houses keep at once."""
