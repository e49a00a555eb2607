"""Tests of shortlooks, for python3 -m unittest."""
