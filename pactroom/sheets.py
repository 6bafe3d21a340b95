"""A sheet: the rows that one deed writes and the letters that it sends."""


class Sheet:
    def __init__(self, stand):
        self.stand = stand
        self.rows = []
        self.sent = []
        # The news behind the last of this sheet's rows; None as long as it has none.
        self.latest = None

    def row(self, row):
        self.stand.keep(row)
        self.rows.append(row)
        # Noted here, not when letters are told: rows of another sheet may follow on the same stand.
        self.latest = self.stand.news()

    def send(self, to, word, p, more):
        self.sent.append((to, (word, p, more)))

    def rows_told(self):
        return list(self.rows)

    def letters_told(self):
        news = self.stand.news() if self.latest is None else self.latest
        return [(pair[0], pair[1] + (news,)) for pair in self.sent]
