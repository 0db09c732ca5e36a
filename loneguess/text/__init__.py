"""Values and commands as texts."""
