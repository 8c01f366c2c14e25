"""Labels, filters, surveys and papers of wishes."""
