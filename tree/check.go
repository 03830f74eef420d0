package tree

import (
	"docket/api"
	"docket/digest"
)

// Include tells the root to which a leaf and a proof lead.
func Include(width, size, i int, leaf api.Digest, ds []api.Digest) (api.Digest, api.Errno) {
	row, why := included(size, i, ds)
	if why != api.OK {
		return api.Digest{}, why
	}
	return rise(leaf, row, ds, joining(width)), api.OK
}

// Climb tells the texts that are summed on the way from a leaf to the root, the lowest first.
func Climb(width, size, i int, leaf api.Digest, ds []api.Digest) ([][]byte, api.Errno) {
	row, why := included(size, i, ds)
	if why != api.OK {
		return nil, why
	}
	var texts [][]byte
	rise(leaf, row, ds, writing(width, &texts))
	return texts, api.OK
}

// included tells the parts aside of the i-th of size leaves, of each of which ds must have the digest.
func included(size, i int, ds []api.Digest) ([]aside, api.Errno) {
	if !counts(size, i) {
		return nil, api.ErrSize
	}
	row := asides(size, i, i+1)
	if len(ds) != len(row) {
		return nil, api.ErrProof
	}
	return row, api.OK
}

// Agree tells whether a proof joins two roots.
func Agree(width, old, size int, oldRoot, root api.Digest, ds []api.Digest) api.Errno {
	if !grows(old, size) {
		return api.ErrSize
	}
	if old == 0 || old == size {
		return agreeBare(width, old, size, oldRoot, root, ds)
	}
	l, why := ledBy(old, size, oldRoot, ds)
	if why != api.OK {
		return why
	}
	both := joining(width)
	if l.before(both) != oldRoot || l.after(both) != root {
		return api.ErrRoot
	}
	return api.OK
}

// agreeBare is Agree where a proof has no digests: from no leaves on, or between trees of one size.
func agreeBare(width, old, size int, oldRoot, root api.Digest, ds []api.Digest) api.Errno {
	if len(ds) != 0 {
		return api.ErrProof
	}
	if old == size && oldRoot != root {
		return api.ErrRoot
	}
	if old == 0 && oldRoot != digest.Nothing(width) {
		return api.ErrRoot
	}
	return api.OK
}

// Ahead tells the two roots to which a proof leads, and the texts that are summed for them: those for the old one, then those for the new one, each time the lowest first.
func Ahead(width, old, size int, oldRoot api.Digest, ds []api.Digest) (api.Digest, api.Digest, [][]byte, api.Errno) {
	if !grows(old, size) || old == 0 || old == size {
		return api.Digest{}, api.Digest{}, nil, api.ErrSize
	}
	l, why := ledBy(old, size, oldRoot, ds)
	if why != api.OK {
		return api.Digest{}, api.Digest{}, nil, why
	}
	var texts [][]byte
	both := writing(width, &texts)
	before := l.before(both)
	after := l.after(both)
	return before, after, texts, api.OK
}

// led is what a consistency proof leads along: from the old tree's last spot up to the whole new tree.
type led struct {
	spot api.Digest
	row  []aside
	ds   []api.Digest
}

// ledBy lays a proof out, of sizes that are unlike and not 0. Where the old tree is one spot its root is that spot's digest, and the proof does not tell it.
func ledBy(old, size int, oldRoot api.Digest, ds []api.Digest) (led, api.Errno) {
	first := lastSpot(old)
	l := led{spot: oldRoot, row: asides(size, first, old), ds: ds}
	if first > 0 && len(ds) > 0 {
		l.spot, l.ds = ds[0], ds[1:]
	}
	if len(l.ds) != len(l.row) {
		return led{}, api.ErrProof
	}
	return l, api.OK
}

// before tells the old root.
func (l led) before(both join) api.Digest { return riseLeft(l.spot, l.row, l.ds, both) }

// after tells the new root.
func (l led) after(both join) api.Digest { return rise(l.spot, l.row, l.ds, both) }
