"""Shellround: things that go round a ring of islands as gifts, and what is owed for them."""
