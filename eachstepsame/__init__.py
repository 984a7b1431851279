"""Eachstepsame: a chain of forms of one program, each of which does the same."""
