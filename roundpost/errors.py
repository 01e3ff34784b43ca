"""The errors of the package: all stand directly under PostError."""


class PostError(ValueError):
    """Any error of the package."""


class BadWeb(PostError):
    """An object that is no web."""


class BadPlace(PostError):
    """An object that is no place of the web, or not the one that is wanted."""


class BadRoad(PostError):
    """An object that is no name of a road of the web."""


class BadPieces(PostError):
    """A web that has not one piece, where one is wanted."""


class BadRows(PostError):
    """An object that is no text of a web and a week; row and word tell where it goes wrong."""

    def __init__(self, row, word):
        PostError.__init__(self, f"wrong at row {row}, word {word}")
        self.row = row
        self.word = word


class BadRota(PostError):
    """An object that is no rota of the web."""


class BadRanks(PostError):
    """An object that is no tuple of the ranks of the web's roads."""


class BadCount(PostError):
    """An object that is no integer of the wanted span."""


class BadWeek(PostError):
    """An object that is no week of the web."""


class BadMoment(PostError):
    """An object that is no moment of the week, or one that is too early."""


class BadTrail(PostError):
    """An object that is no trail from the place and the moment."""


class BadWay(PostError):
    """An object that is no way of the web."""


class BadOrders(PostError):
    """An object that is no list of local orders of the web."""


class BadIndex(PostError):
    """An object that is no index of the wanted span."""


class BadTree(PostError):
    """A web that is no tree, where one is wanted."""


class BadTable(PostError):
    """An object that is no table of days."""


class BadSnow(PostError):
    """An object that is no snow of the web."""


class BadRing(PostError):
    """An object that is no ring of the web."""


class BadChain(PostError):
    """An object that is no chain of ranks."""


class BadDay(PostError):
    """An object that is no day of the wanted span."""


class BadReports(PostError):
    """An object that is no tuple of reports."""


class BadRotas(PostError):
    """An object that is no list or tuple of two or more rotas of the web."""


class BadScript(PostError):
    """An object that is no script."""


class BadName(PostError):
    """An object that is no name, or a name that is taken."""


class BadDemands(PostError):
    """An object that is no tuple of demands."""


class BadJoin(PostError):
    """An object by which the two webs cannot be joined."""


class BadTurns(PostError):
    """An object that is no tuple of turns of two rotas."""


class NothingToUndo(PostError):
    """No deed is in force that could be taken back."""


class Full(PostError):
    """There are as many roads or deeds as there may be."""


class BadCommand(PostError):
    """An object that is no row for the desk."""


class TooMany(PostError):
    """There is more to count than the bound allows."""
