"""Books of rules on scattered letters, judged for all words."""
