"""Records of several sources: read strictly, known by source and number, brought into one form."""
