"""The tests of packshelf."""
