"""The tests of the package washedarms."""
