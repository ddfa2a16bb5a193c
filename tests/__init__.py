"""The tests of flowtells: run `python3 -m unittest` at the top of the repository."""
