"""What a log lets one know: silent moves, knowings, watchers, tables."""
