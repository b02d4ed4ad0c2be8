"""The tests of nudgewebs."""
