"""Leadsever: moved pages and remembered redirects, decided for all addresses."""
