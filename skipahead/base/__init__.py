"""Names, books and items."""
