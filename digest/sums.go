package digest

import (
	"docket/api"
	"docket/octet"
)

// The first bytes of what is summed: each kind of text has its own, so no text of one kind is one of another.
const (
	DLeaf = iota
	DNode
	DLink
	DEntry
	DBranch
	DEmpty
	DKey
	DLog
	DEffects
	DSigned
)

// Text tells what is summed: the domain's lowest 8 bits as a byte, and the parts behind it.
func Text(domain int, parts ...[]byte) []byte {
	w := octet.New()
	octet.Put(w, uint8(domain))
	w.Raw(parts...)
	return w.All()
}

// Of tells the sum of such a text.
func Of(width, domain int, parts ...[]byte) api.Digest {
	// Piece by piece, not by Text: the trees sum often, and a text's memory would be most of the work.
	h := New()
	h.Write([]byte{byte(domain)})
	for _, p := range parts {
		h.Write(p)
	}
	return Cut(h.Sum(), width)
}

// Leaf tells an event's leaf.
func Leaf(width int, event []byte) api.Digest { return Of(width, DLeaf, event) }

// Node tells a node's sum.
func Node(width int, l, r api.Digest) api.Digest { return Of(width, DNode, l[:], r[:]) }

// Nothing tells the root of no leaves.
func Nothing(width int) api.Digest { return Cut(Sum(nil), width) }

// Link tells the chain behind a further leaf.
func Link(width int, chain, leaf api.Digest) api.Digest {
	return Of(width, DLink, chain[:], leaf[:])
}

// Entry tells the sum of a key with its entry.
func Entry(width int, k api.Digest, e api.Entry) api.Digest {
	w := octet.New()
	octet.Put(w, uint64(e.Count))
	return Of(width, DEntry, k[:], w.All(), e.Chain[:])
}

// Branch tells the sum of two subtrees of the index.
func Branch(width int, l, r api.Digest) api.Digest { return Of(width, DBranch, l[:], r[:]) }

// Empty tells the sum of an empty subtree of the index. A height below 0 counts as 0, one above 256 as 256.
func Empty(width, height int) api.Digest {
	d := Of(width, DEmpty)
	for range max(0, min(height, api.Height)) {
		d = Branch(width, d, d)
	}
	return d
}

// Key tells a name's place in the index. A place has no width: it is the whole sum.
func Key(name string) api.Digest { return Of(size, DKey, []byte(name)) }
