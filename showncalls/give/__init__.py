"""What a program can give away, and papers that show it."""
