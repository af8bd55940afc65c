"""Earliestlots: books of facts about two to four dates that may be tied."""
