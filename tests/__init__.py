"""Tests of bandprint, by its interface alone."""
