"""cellbills: a typed language without a collector, its compiler, and its bills."""
