"""Wrong prices put right: what should have been, worked out anew, and who is owed."""
