"""Small stories that are played, and of which every hint is proved."""
