"""Roundsum: rounded shapes with whole corners put together, taken off again, and parted."""
