"""Texts of programs and logs."""
