"""Earlysift: questions answered while a paper comes, as early as can be."""
