"""Toldthere: statements that are run again at a copy, decided for all tables."""
