"""Flowtells: a web told back from what its flows share, in any basis."""
