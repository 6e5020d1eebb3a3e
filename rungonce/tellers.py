"""Lots of bells by whose paths leads are told from all others, or from one another."""

from rungonce.basics import all_lots, are_ascending
from rungonce.errors import InvalidLeads, InvalidLot
from rungonce.leads import check_bells_and_lead, could_lead
from rungonce.paths import fitting_changes, path_by
from rungonce.rows import check_bells

MOST_LEADS_PARTED = 12


def check_lead_and_lot(bells, lead, lot):
    """Raise the first error that applies to the bells, to a lead of so many, and to a lot of them."""
    check_bells_and_lead(bells, lead)
    if not are_ascending(lot, bells):
        raise InvalidLot("this is not a lot of the bells")


def check_leads(bells, leads):
    """Raise InvalidLeads if these are not 1 to 12 unlike leads of as many changes each."""
    if not isinstance(leads, tuple) or not 1 <= len(leads) <= MOST_LEADS_PARTED:
        raise InvalidLeads("leads must be a tuple of 1 to 12 leads")
    if not all([could_lead(bells, lead) for lead in leads]):
        raise InvalidLeads("these are not leads of so many bells")
    if any([len(lead) != len(leads[0]) for lead in leads]) or len(set(leads)) < len(leads):
        raise InvalidLeads("these are not unlike leads of as many changes each")


def changes_alike(bells, lead, lot):
    """Return, for each change of a lead, those that move the bells of a lot likewise; nothing is checked."""
    return fitting_changes(bells, len(lead), [(bell, path_by(bells, lead, bell)) for bell in lot])


def tells(bells, lead, lot):
    """Tell whether a lead is told by a lot; nothing is checked."""
    return all([len(changes) == 1 for changes in changes_alike(bells, lead, lot)])


def least_among(lots):
    """Return the ascending list of those of some lots within which no other one of them lies."""
    return sorted([lot for lot in lots
                   if not any([other != lot and all([bell in lot for bell in other]) for other in lots])])


def is_told(bells, lead, lot):
    """Tell whether a lead is told by a lot."""
    check_lead_and_lot(bells, lead, lot)
    return tells(bells, lead, lot)


def second_lead(bells, lead, lot):
    """Return any other lead of as many changes with the same paths of the bells of a lot, or None."""
    check_lead_and_lot(bells, lead, lot)
    for at, changes in enumerate(changes_alike(bells, lead, lot)):
        for change in changes:
            if change != lead[at]:
                return lead[:at] + (change,) + lead[at + 1:]
    return None


def least_tellers(bells, lead):
    """Return the ascending list of all least lots that tell a lead."""
    check_bells_and_lead(bells, lead)
    return least_among([lot for lot in all_lots(bells) if tells(bells, lead, lot)])


def parting_lots(bells, leads):
    """Return the ascending list of all least lots of whose bells no two of the leads have the same paths."""
    check_bells(bells)
    check_leads(bells, leads)
    paths = [[path_by(bells, lead, bell) for bell in range(bells)] for lead in leads]
    return least_among([lot for lot in all_lots(bells)
                        if len(set([tuple([found[bell] for bell in lot]) for found in paths])) == len(leads)])
