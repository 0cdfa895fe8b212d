"""Fields, rows over them, rooms, and chains of rooms."""
