"""The tests of straylanes."""
