"""Bodies in space spanned by whole points."""
