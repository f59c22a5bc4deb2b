"""Foldsall: which looks at a program miss nothing."""
