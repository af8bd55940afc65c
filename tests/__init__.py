"""The tests of the package earliestlots."""
