"""Tests of ringvouch, for python3 -m unittest."""
