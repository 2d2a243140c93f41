"""Coinlanes: payments along lanes, whatever the others do."""
