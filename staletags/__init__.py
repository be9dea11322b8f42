"""Staletags: rooms of memory whose handles bear tags, so that stale handles are found out."""
