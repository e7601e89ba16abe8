"""The tests of railhouse."""
