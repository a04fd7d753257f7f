"""At which place of its tuple each part of a plan and of a state stands."""

# Of a way, a sender, a letter, and a sender's part of a state.
NAME = 0

# Of a plan.
GRID = 0
WAYS = 1
SENDERS = 2

# Of a way.
PACE = 1
ROOM = 2
MARK = 3
SORT = 4

# Of a sender.
ROAD = 1
BEAT = 2
BEGIN = 3
MANY = 4
RULE = 5

# Of a letter.
NUMBER = 1
AGE = 2
HOP = 3
IS_MARKED = 4

# Of a state.
STATE_WAYS = 0
STATE_SENDERS = 1

# Of a way's part of a state.
COMING = 0
STANDING = 1
LAST = 2

# Of a sender's part of a state.
DUE = 1
WINDOW = 2
SHARE = 3
NEXT = 4
LEFT = 5
AGAIN = 6
LOST = 7
GOOD = 8
MARKED = 9
WAIT = 10
