"""One polynomial P for each two members, by letters, by the bar, by matchings and by masks."""
