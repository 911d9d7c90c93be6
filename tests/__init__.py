"""Tests of buzzround."""
