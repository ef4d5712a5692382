"""Reports: lines of columns that show days, chains and counts."""

from stillgrows.chains import all_chains, chain_saying
from stillgrows.spreads import ending_masks, plain_spread
from stillgrows.subsets import marked_mask, sets_led
from stillgrows.words import row_text


def rows_report(day):
    """Return the report of what the stations have heard."""
    lines = ["station   heard waiting  row"]
    for station in day.stations:
        heard = len(station.heard)
        lines.append(f"{station.index:<8}{heard:>7}{station.waiting:>8}  {row_text(station.row)}")
    return lines


def boards_report(day):
    """Return the report of what the boards show."""
    lines = [f"{'name':<12}" + "".join([f"{station.index:>7}" for station in day.stations])]
    for name in day.boards[0]:
        lines.append(f"{name:<12}" + "".join([f"{board[name]:>7}" for board in day.boards]))
    return lines


def chains_report(saying, lot, row):
    """Return the report of the chains, and whether the row is in the sayings that they make."""
    lines = []
    for chain in all_chains():
        words = " ".join(chain) or "plain"
        answer = "yes" if row in chain_saying(saying, lot, chain) else "no"
        lines.append(f"{words:<13}{answer:>4}")
    return lines


def ways_on(ways, table):
    """Return how many rows lead to each state, if one sign stands behind rows that lead so in these many ways."""
    longer = [0] * len(ways)
    for many, entry in zip(ways, table):
        for at in entry:
            longer[at] += many
    return longer


def counts_of_verdicts(saying, lot, longest):
    """Return for each length up to `longest` how many rows are sure, how many open and how many never."""
    first, columns = ending_masks(plain_spread(saying, lot))
    ends, table = sets_led(first, columns)
    marked = marked_mask(saying)
    sure = [at for at, states in enumerate(ends) if states & marked == states]
    never = [at for at, states in enumerate(ends) if states & marked == 0]
    # For each set of ends how many rows of the length have it.
    ways = [0] * len(ends)
    ways[0] = 1
    counts = []
    for _ in range(longest + 1):
        many_sure = sum([ways[at] for at in sure])
        many_never = sum([ways[at] for at in never])
        counts.append((many_sure, sum(ways) - many_sure - many_never, many_never))
        ways = ways_on(ways, table)
    return counts


def counts_report(saying, lot, longest):
    """Return the report of how many rows of each length have each verdict."""
    lines = ["length       sure       open      never"]
    for length, (sure, possible, never) in enumerate(counts_of_verdicts(saying, lot, longest)):
        lines.append(f"{length:>6}{sure:>11,}{possible:>11,}{never:>11,}")
    return lines
