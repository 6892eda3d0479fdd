"""hourrings: clocks that nobody sees, told by their differences."""
