"""The tests of the package staycounts."""
