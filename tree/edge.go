package tree

import (
	"docket/api"
	"docket/digest"
)

// levels is how many levels a spot may have: 0 to 40, for MaxLog is 2^40.
const levels = 41

// Edge is what is kept of a tree that grows: a value. The zero value is the edge of no leaves.
type Edge struct {
	size int
	// full holds the digests of the size's spots, each at its level. (No two of them have one level.)
	full [levels]api.Digest
}

// Size tells how many leaves there are.
func (e Edge) Size() int { return e.size }

// Add tells the edge with one leaf more; at MaxLog it refuses.
func (e Edge) Add(width int, leaf api.Digest) (Edge, api.Errno) {
	if e.size >= api.MaxLog {
		return Edge{}, api.ErrFull
	}
	next, d, level := e, leaf, 0
	// As in a sum by hand: each level that is taken is joined with what comes, and carried.
	for ; e.size>>level&1 == 1; level++ {
		d = digest.Node(width, e.full[level], d)
		next.full[level] = api.Digest{}
	}
	next.full[level] = d
	next.size++
	return next, api.OK
}

// Root tells the root of all leaves.
func (e Edge) Root(width int) api.Digest { return Fold(width, e.Digests()) }

// Digests tells the digests of the size's spots, from left to right.
func (e Edge) Digests() []api.Digest {
	var ds []api.Digest
	for _, s := range Spots(0, e.size) {
		ds = append(ds, e.full[s.Level])
	}
	return ds
}

// Rebuild makes an edge of a size and its spots' digests.
func Rebuild(size int, ds []api.Digest) (Edge, api.Errno) {
	if size < 0 || size > api.MaxLog {
		return Edge{}, api.ErrSize
	}
	row := Spots(0, size)
	if len(ds) != len(row) {
		return Edge{}, api.ErrForm
	}
	e := Edge{size: size}
	for i, s := range row {
		e.full[s.Level] = ds[i]
	}
	return e, api.OK
}
