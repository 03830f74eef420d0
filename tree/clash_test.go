package tree_test

import (
	"bytes"
	"crypto/sha256"
	"math/rand"
	"slices"
	"testing"

	"docket/api"
	"docket/digest"
	"docket/tree"
)

func TestP6_10MadeIsTaken(t *testing.T) {
	l := leavesOf(34)
	for _, w := range someWidths() {
		at := truly(w, l)
		for size := range len(l) + 1 {
			for i := range size {
				ds, _ := tree.Inclusion(w, size, i, at)
				if root, why := tree.Include(w, size, i, l[i], ds); root != tree.Root(w, l[:size]) || why != api.OK {
					t.Errorf("width %d: leaf %d of %d: %x, %v", w, i, size, root, why)
				}
			}
			for old := range size + 1 {
				ds, _ := tree.Consistency(w, old, size, at)
				agrees(t, w, old, size, tree.Root(w, l[:old]), tree.Root(w, l[:size]), ds, api.OK)
			}
		}
	}
}

// clash says whether among the texts are two unlike ones with one sum, by the tests' own search, and whether digest.Clash finds such.
func clash(t *testing.T, what string, width int, texts ...[]byte) {
	t.Helper()
	a, b, found := digest.Clash(width, texts...)
	if !found || bytes.Equal(a, b) || cut(sha256.Sum256(a), width) != cut(sha256.Sum256(b), width) {
		t.Errorf("%s: among %d texts no two unlike ones of one sum: %x, %x, %v", what, len(texts), a, b, found)
	}
	of := func(x []byte) bool {
		return slices.ContainsFunc(texts, func(y []byte) bool { return bytes.Equal(x, y) })
	}
	if found && (!of(a) || !of(b)) {
		t.Errorf("%s: texts that were not handed in", what)
	}
}

// tries is how often is drawn: of two bytes' sums one in 65536 fits.
const tries = 1 << 22

// proofTo draws a leaf and a way until they lead to a root.
func proofTo(t *testing.T, r *rand.Rand, width, size, i int, root api.Digest) (api.Digest, []api.Digest) {
	many := len(whole{width, size, told}.path(i, 0, size))
	for range tries {
		leaf, ds := drawn(r, 1), drawnList(r, many, 1)
		if many == 0 {
			leaf = root
		}
		if got, _ := tree.Include(width, size, i, leaf, ds); got == root {
			return leaf, ds
		}
	}
	t.Fatalf("nothing leads to %x", root)
	return root, nil
}

func TestP6_11TwoLeavesAtOnePlace(t *testing.T) {
	r := rand.New(rand.NewSource(11))
	for range 300 {
		size := 2 + r.Intn(20)
		i := r.Intn(size)
		leaf, ds := proofTo(t, r, 1, size, i, drawn(r, 1))
		root, _ := tree.Include(1, size, i, leaf, ds)
		other, way := proofTo(t, r, 1, size, i, root)
		if leaf == other && slices.Equal(ds, way) {
			continue
		}
		a, _ := tree.Climb(1, size, i, leaf, ds)
		b, _ := tree.Climb(1, size, i, other, way)
		clash(t, named("two leaves", size, i), 1, append(a, b...)...)
	}
}

func TestP6_11AWayThatDiffersInOneDigestAlone(t *testing.T) {
	r := rand.New(rand.NewSource(12))
	found := 0
	for range 4000 {
		size := 2 + r.Intn(9)
		i := r.Intn(size)
		leaf, ds := drawn(r, 32), drawnList(r, len(whole{1, size, told}.path(i, 0, size)), 32)
		way := slices.Clone(ds)
		way[r.Intn(len(way))] = drawn(r, 32)
		x, _ := tree.Include(1, size, i, leaf, ds)
		y, _ := tree.Include(1, size, i, leaf, way)
		if x != y || slices.Equal(ds, way) {
			continue
		}
		found++
		a, _ := tree.Climb(1, size, i, leaf, ds)
		b, _ := tree.Climb(1, size, i, leaf, way)
		clash(t, named("two ways", size, i), 1, append(a, b...)...)
	}
	if found == 0 {
		t.Error("no two ways were found that lead to one root")
	}
}

// joinedTo draws an old root and a list until they lead to a root, and to the old one that is asked for, if any.
func joinedTo(t *testing.T, r *rand.Rand, old, size int, oldRoot *api.Digest, root api.Digest) (api.Digest, []api.Digest) {
	many := len(whole{1, size, told}.proof(old))
	for range tries {
		from, ds := drawn(r, 1), drawnList(r, many, 32)
		if oldRoot != nil {
			from = *oldRoot
		}
		before, after, _, _ := tree.Ahead(1, old, size, from, ds)
		if after == root && (oldRoot == nil || before == *oldRoot) {
			return before, ds
		}
	}
	t.Fatalf("nothing leads to %x", root)
	return root, nil
}

func TestP6_11TwoListsThatJoinTwoRoots(t *testing.T) {
	r := rand.New(rand.NewSource(13))
	for range 15 {
		size := 2 + r.Intn(12)
		old := 1 + r.Intn(size-1)
		root := drawn(r, 1)
		oldRoot, ds := joinedTo(t, r, old, size, nil, root)
		agrees(t, 1, old, size, oldRoot, root, ds, api.OK)
		_, way := joinedTo(t, r, old, size, &oldRoot, root)
		if slices.Equal(ds, way) {
			continue
		}
		_, _, a, _ := tree.Ahead(1, old, size, oldRoot, ds)
		_, _, b, _ := tree.Ahead(1, old, size, oldRoot, way)
		clash(t, named("two lists", old, size), 1, append(a, b...)...)
	}
}

func TestP6_11TwoOldRootsOfOneNewOne(t *testing.T) {
	r := rand.New(rand.NewSource(14))
	for range 300 {
		size := 2 + r.Intn(20)
		old := 1 + r.Intn(size-1)
		root := drawn(r, 1)
		oneRoot, ds := joinedTo(t, r, old, size, nil, root)
		other, way := joinedTo(t, r, old, size, nil, root)
		if oneRoot == other {
			continue
		}
		_, _, a, _ := tree.Ahead(1, old, size, oneRoot, ds)
		_, _, b, _ := tree.Ahead(1, old, size, other, way)
		clash(t, named("two old roots", old, size), 1, append(a, b...)...)
	}
}

func TestP6_12InclusionAgainstConsistency(t *testing.T) {
	r := rand.New(rand.NewSource(15))
	for range 300 {
		size := 2 + r.Intn(20)
		old := 1 + r.Intn(size-1)
		i := r.Intn(old)
		oldRoot, ds := joinedTo(t, r, old, size, nil, drawn(r, 1))
		_, root, texts, _ := tree.Ahead(1, old, size, oldRoot, ds)
		agrees(t, 1, old, size, oldRoot, root, ds, api.OK)
		leaf1, way1 := proofTo(t, r, 1, old, i, oldRoot)
		leaf2, way2 := proofTo(t, r, 1, size, i, root)
		if leaf1 == leaf2 {
			continue
		}
		a, _ := tree.Climb(1, old, i, leaf1, way1)
		b, _ := tree.Climb(1, size, i, leaf2, way2)
		clash(t, named("against", old, size, i), 1, slices.Concat(texts, a, b)...)
	}
}

// TestP6_12NoTextIsLeftOut: of two byte-wide proofs many texts clash by chance alone; here all but the least are honest, so that the two texts are the ones that the promise speaks of.
func TestP6_12NoTextIsLeftOut(t *testing.T) {
	r := rand.New(rand.NewSource(16))
	for range 20 {
		size := 2 + r.Intn(12)
		old := 1 + r.Intn(size-1)
		i := r.Intn(old)
		l := leavesOf(size)
		way, _ := tree.Inclusion(2, size, i, truly(2, l))
		if len(way) == 0 {
			continue
		}
		other := twin(t, r, 2, size, i, l[i], way)
		ds, _ := tree.Consistency(2, old, size, truly(2, l))
		oldWay, _ := tree.Inclusion(2, old, i, truly(2, l))
		_, _, texts, _ := tree.Ahead(2, old, size, tree.Root(2, l[:old]), ds)
		a, _ := tree.Climb(2, old, i, l[i], oldWay)
		b, _ := tree.Climb(2, size, i, other.leaf, other.way)
		clash(t, named("against", old, size, i), 2, slices.Concat(texts, a, b)...)
	}
}

// proofOf is a leaf and its way.
type proofOf struct {
	leaf api.Digest
	way  []api.Digest
}

// twin searches another leaf, and another lowest digest of its way, whose text has the sum of the true ones.
func twin(t *testing.T, r *rand.Rand, width, size, i int, leaf api.Digest, way []api.Digest) proofOf {
	root, _ := tree.Include(width, size, i, leaf, way)
	x := proofOf{leaf, slices.Clone(way)}
	for range tries {
		x.leaf, x.way[0] = drawn(r, 32), drawn(r, 32)
		if got, _ := tree.Include(width, size, i, x.leaf, x.way); got == root {
			return x
		}
	}
	t.Fatalf("nothing else leads to %x", root)
	return x
}
