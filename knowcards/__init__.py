"""Knowcards: a table at which some know what others do not."""
