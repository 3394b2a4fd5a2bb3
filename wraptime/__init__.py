"""Wraptime: counters that go round."""
