"""Words and lines, facts, programs."""
