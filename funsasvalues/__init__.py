"""Programs with functions as values: reading them, and telling what happens in a run."""
