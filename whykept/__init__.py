"""What of a program can be left out: why it's kept."""
