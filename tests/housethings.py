"""Houses for the tests: a root, a firm and another one."""

from namehouse.house import House
from namehouse.zones import Zone
from tests.zonethings import at, rec

ROOT, FIRM, COM, COPY = 1, 2, 3, 9
ROOTS = [(at("r"), ROOT)]


def root_zone(*records):
    return Zone((), [rec("", "top", (1, 4), 50), rec("", "keeper", "r", 50), rec("r", "addr", ROOT, 50),
                     rec("firm", "keeper", "ns.firm", 30), rec("ns.firm", "addr", FIRM, 30),
                     rec("com", "keeper", "ns.firm", 30), rec("com", "keeper", "ns.com", 30), rec("ns.com", "addr", COM, 30)] + list(records))


def firm_zone(*records):
    return Zone(at("firm"), [rec("firm", "top", (5, 3), 50), rec("firm", "keeper", "ns.firm", 30), rec("ns.firm", "addr", FIRM, 30),
                             rec("www.firm", "addr", 7, 6), rec("www.firm", "addr", 8, 6), rec("a.firm", "other", "www.firm", 9),
                             rec("o.firm", "other", "w.com", 9), rec("ring.firm", "other", "ring.com", 9)] + list(records))


def com_zone(*records):
    return Zone(at("com"), [rec("com", "top", (9, 3), 50), rec("com", "keeper", "ns.com", 30), rec("w.com", "text", "w", 5),
                            rec("ring.com", "other", "ring.firm", 9)] + list(records))


def house(road=None):
    return House([(ROOT, root_zone()), (FIRM, firm_zone()), (COM, com_zone())], list(ROOTS), road)


def go(one, many=40):
    """So many turns, or until the asking ends; the turns that it took."""
    for k in range(many):
        if one.end() is not None:
            return k
        one.go()
    return many
