"""Schemes of entitlements, and what moving between them can ever cost."""
