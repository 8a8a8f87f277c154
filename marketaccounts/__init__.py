"""Accounts of an electricity market: billed, paid, secured, and who bears a failure."""
