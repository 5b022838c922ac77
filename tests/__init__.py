"""The tests of unitwants."""
