"""The tests of scanpages."""
