"""Systems, words, mirrors and roots."""
