"""Certificates: pairs of a claim and a paper that shows it."""

from lastshort.chains import first_difference
from lastshort.comparing import first_unlike
from lastshort.judging import fault


def certify(loop, source, name):
    """Return a certificate that the loop has this property, or that it does not have it."""
    found = fault(loop, source, name)
    if found is None:
        return ("always", loop.text, str(source), name), ()
    return ("fault", loop.text, str(source), name), found


def certify_unlike(loop, other_loop, end):
    """Return a certificate that the loops are not alike, or None if they are."""
    found = first_unlike(loop, other_loop, end)
    if found is None:
        return None
    return ("unlike", loop.text, other_loop.text, end), found


def certify_chains(chain, other_chain):
    """Return a certificate that the chains give the same pieces for all numbers of items, or that they do not."""
    found = first_difference(chain, other_chain)
    if found is None:
        return ("chains", chain.text, other_chain.text), ()
    return ("split", chain.text, other_chain.text), found
