"""Fairsearch: questions to relations, answered round by round."""
