"""Values as texts, and a shell."""
