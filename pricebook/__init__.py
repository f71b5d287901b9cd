"""Prices: a book, baskets, bills. The calls are answered by pricebook.bills.answers."""
