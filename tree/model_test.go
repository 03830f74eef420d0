package tree_test

import (
	"crypto/sha256"
	"encoding/binary"
	"fmt"
	"math/rand"
	"slices"
	"testing"

	"docket/api"
	"docket/tree"
)

// The tests' own tree: RFC 6962, 2.1, word by word over the parts of a row of leaves, with the library's SHA-256.

// someWidths are widths with those that the document names, and some beyond.
func someWidths() []int { return []int{32, 1, 2, 31, 33, 0, -7} }

func cut(d api.Digest, width int) api.Digest {
	for i := range d {
		if i > 0 && i >= width {
			d[i] = 0
		}
	}
	return d
}

func textOf(l, r api.Digest) []byte { return slices.Concat([]byte{1}, l[:], r[:]) }

func node(width int, l, r api.Digest) api.Digest { return cut(sha256.Sum256(textOf(l, r)), width) }

func nothing(width int) api.Digest { return cut(sha256.Sum256(nil), width) }

// leavesOf makes unlike leaves.
func leavesOf(n int) []api.Digest {
	var l []api.Digest
	for i := range n {
		l = append(l, sha256.Sum256([]byte{byte(i), byte(i >> 8), 77}))
	}
	return l
}

// below is the greatest power of two below n.
func below(n int) int {
	k := 1
	for 2*k < n {
		k *= 2
	}
	return k
}

func mth(width int, l []api.Digest) api.Digest {
	if len(l) == 0 {
		return nothing(width)
	}
	if len(l) == 1 {
		return l[0]
	}
	k := below(len(l))
	return node(width, mth(width, l[:k]), mth(width, l[k:]))
}

// whole is a tree of any size, told by what its spots are.
type whole struct {
	width, size int
	at          func(tree.Spot) api.Digest
}

// part is the digest of the leaves from .. to: a spot's as it is told, else Node of its two parts.
func (w whole) part(from, to int) api.Digest {
	n := to - from
	for level := 0; 1<<level <= n; level++ {
		if n == 1<<level && from%n == 0 {
			return w.at(tree.Spot{Level: level, Index: from / n})
		}
	}
	k := below(n)
	return node(w.width, w.part(from, from+k), w.part(from+k, to))
}

// path is PATH(i, D[from:to]) of RFC 6962.
func (w whole) path(i, from, to int) []api.Digest {
	if to-from == 1 {
		return nil
	}
	k := from + below(to-from)
	if i < k {
		return append(w.path(i, from, k), w.part(k, to))
	}
	return append(w.path(i, k, to), w.part(from, k))
}

// sub is SUBPROOF(m, D[from:to], b) of RFC 6962, with m counted from the row's beginning.
func (w whole) sub(m, from, to int, b bool) []api.Digest {
	if m == to {
		if b {
			return nil
		}
		return []api.Digest{w.part(from, to)}
	}
	k := from + below(to-from)
	if m <= k {
		return append(w.sub(m, from, k, b), w.part(k, to))
	}
	return append(w.sub(m, k, to, false), w.part(from, k))
}

// proof is PROOF(m, D) of RFC 6962, and of no leaves none.
func (w whole) proof(m int) []api.Digest {
	if m == 0 {
		return nil
	}
	return w.sub(m, 0, w.size, true)
}

// truly tells the true digests of the spots of leaves, at a width.
func truly(width int, l []api.Digest) func(tree.Spot) api.Digest {
	return func(s tree.Spot) api.Digest { return mth(width, l[s.Index<<s.Level:(s.Index+1)<<s.Level]) }
}

// told tells a digest of its own of each spot, with all of its bytes used.
func told(s tree.Spot) api.Digest {
	b := binary.BigEndian.AppendUint64([]byte{byte(s.Level)}, uint64(s.Index))
	return sha256.Sum256(b)
}

// within tells what told does, and an error of each spot that is none of the first size leaves.
func within(t *testing.T, size int) func(tree.Spot) api.Digest {
	return func(s tree.Spot) api.Digest {
		t.Helper()
		if s.Level < 0 || s.Level > 40 || s.Index < 0 || s.Index > size>>s.Level-1 {
			t.Errorf("of %d leaves at was asked for %v", size, s)
		}
		return told(s)
	}
}

// hand is who checks a proof: it takes the digests one by one, and keeps what is summed.
type hand struct {
	width int
	ds    []api.Digest
	texts [][]byte
}

func (h *hand) next() api.Digest {
	d := h.ds[0]
	h.ds = h.ds[1:]
	return d
}

func (h *hand) node(l, r api.Digest) api.Digest {
	h.texts = append(h.texts, textOf(l, r))
	return node(h.width, l, r)
}

// include is the root of the leaves from .. to with i among them.
func (h *hand) include(i, from, to int, leaf api.Digest) api.Digest {
	if to-from == 1 {
		return leaf
	}
	k := from + below(to-from)
	if i < k {
		l := h.include(i, from, k, leaf)
		return h.node(l, h.next())
	}
	r := h.include(i, k, to, leaf)
	return h.node(h.next(), r)
}

// lead is the root of the leaves from .. to: of those below m alone where old is true, else of all.
func (h *hand) lead(m, from, to int, old, b bool, oldRoot api.Digest) api.Digest {
	if m == to {
		if b {
			return oldRoot
		}
		return h.next()
	}
	k := from + below(to-from)
	if m > k {
		r := h.lead(m, k, to, old, false, oldRoot)
		return h.node(h.next(), r)
	}
	l := h.lead(m, from, k, old, b, oldRoot)
	r := h.next()
	if old {
		return l
	}
	return h.node(l, r)
}

// drawn is a digest of which the first width bytes are drawn.
func drawn(r *rand.Rand, width int) api.Digest {
	var d api.Digest
	r.Read(d[:])
	return cut(d, width)
}

func drawnList(r *rand.Rand, n, width int) []api.Digest {
	ds := make([]api.Digest, n)
	for i := range ds {
		ds[i] = drawn(r, width)
	}
	return ds
}

// spare is a copy of ds with room behind it, and who tells whether any of it was changed.
func spare(t *testing.T, ds []api.Digest) ([]api.Digest, func(what string)) {
	all := append(slices.Clone(ds), leavesOf(3)...)
	before := slices.Clone(all)
	return all[:len(ds)], func(what string) {
		t.Helper()
		if !slices.Equal(all, before) {
			t.Errorf("%s changed what was handed in", what)
		}
	}
}

// is holds a list of digests against what it must be.
func is(t *testing.T, what string, got, want []api.Digest) {
	t.Helper()
	if !slices.Equal(got, want) {
		t.Errorf("%s: %x, must be %x", what, got, want)
	}
}

// far are sizes with other bits, up to the greatest.
func far() []int {
	return []int{1, 2, 3, 1000, 1<<20 + 1, 1<<39 + 5, 0x5555555555, 0xAAAAAAAAAA, api.MaxLog - 1, api.MaxLog}
}

func named(what string, args ...int) string { return what + fmt.Sprint(args) }
