"""A program that changes and keeps its promises."""
