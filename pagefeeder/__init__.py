"""Pagefeeder: a book's sheets taken in by a feeder."""
