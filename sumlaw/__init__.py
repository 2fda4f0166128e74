"""Sumlaw: statements about whole numbers, told true or false."""
