"""Tests of the package overtaken."""
