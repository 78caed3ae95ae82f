"""The numbers above which some questions are refused."""

MOST_HISTORIES = 300
MOST_SETS = 4000
