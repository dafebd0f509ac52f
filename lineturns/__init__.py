"""Lineturns: one of any number of askers gets the turn."""
