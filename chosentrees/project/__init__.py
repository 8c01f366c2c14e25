"""Projects: a grammar with wishes and kept texts, changed step by step."""
