package tree_test

import (
	"bytes"
	"crypto/sha256"
	"math"
	"math/rand"
	"slices"
	"testing"

	"docket/api"
	"docket/digest"
	"docket/tree"
)

// climbs holds Include and Climb of a proof against the tests' own.
func climbs(t *testing.T, width, size, i int, leaf api.Digest, ds []api.Digest) api.Digest {
	t.Helper()
	h := &hand{width: width, ds: ds}
	want := h.include(i, 0, size, leaf)
	root, why := tree.Include(width, size, i, leaf, ds)
	if root != want || why != api.OK {
		t.Errorf("Include(%d, %d, %d): %x, %v", width, size, i, root, why)
	}
	texts, why := tree.Climb(width, size, i, leaf, ds)
	sameTexts(t, named("Climb", width, size, i), texts, h.texts)
	if why != api.OK {
		t.Errorf("Climb(%d, %d, %d): %v", width, size, i, why)
	}
	return root
}

func sameTexts(t *testing.T, what string, got, want [][]byte) {
	t.Helper()
	if !slices.EqualFunc(got, want, bytes.Equal) {
		t.Errorf("%s: %x, must be %x", what, got, want)
	}
}

func TestP6_7WhereADrawnListLeads(t *testing.T) {
	r := rand.New(rand.NewSource(4))
	for _, w := range someWidths() {
		for size := 1; size < 40; size++ {
			for i := range size {
				ds := drawnList(r, len(whole{w, size, told}.path(i, 0, size)), 32)
				climbs(t, w, size, i, drawn(r, 32), ds)
			}
		}
	}
}

func TestP6_7WhereItLeadsAtGreatSizes(t *testing.T) {
	r := rand.New(rand.NewSource(5))
	for _, size := range far() {
		for _, i := range []int{0, size / 2, size / 3, size - 1} {
			climbs(t, 32, size, i, drawn(r, 32), drawnList(r, len(whole{32, size, told}.path(i, 0, size)), 32))
		}
	}
}

func TestP6_7OneLeafIsItsRoot(t *testing.T) {
	leaf := leavesOf(1)[0]
	for _, w := range someWidths() {
		if root := climbs(t, w, 1, 0, leaf, nil); root != leaf {
			t.Errorf("width %d: %x", w, root)
		}
	}
}

// includeRefuses asks both calls.
func includeRefuses(t *testing.T, size, i int, ds []api.Digest, want api.Errno) {
	t.Helper()
	if root, why := tree.Include(32, size, i, told(tree.Spot{}), ds); root != (api.Digest{}) || why != want {
		t.Errorf("Include(%d, %d) of %d digests: %x, %v", size, i, len(ds), root, why)
	}
	if texts, why := tree.Climb(32, size, i, told(tree.Spot{}), ds); texts != nil || why != want {
		t.Errorf("Climb(%d, %d) of %d digests: %x, %v", size, i, len(ds), texts, why)
	}
}

func TestP6_7AListOfAnotherLength(t *testing.T) {
	l := leavesOf(45)
	for size := 1; size < 35; size++ {
		for i := range size {
			want := len(whole{32, size, told}.path(i, 0, size))
			for many := range 9 {
				if many != want {
					includeRefuses(t, size, i, l[:many], api.ErrProof)
				}
			}
		}
	}
	includeRefuses(t, api.MaxLog, 5, l[:39], api.ErrProof)
	includeRefuses(t, api.MaxLog, 5, l[:41], api.ErrProof)
	includeRefuses(t, api.MaxLog, 5, nil, api.ErrProof)
}

func TestP6_7SizesAndPlacesThatMayNotBe(t *testing.T) {
	for _, x := range [][2]int{
		{0, 0}, {0, -1}, {-1, 0}, {-1, -2}, {1, 1}, {1, -1}, {3, 3}, {3, 4}, {3, -1}, {api.MaxLog, api.MaxLog}, {api.MaxLog + 1, 0}, {api.MaxLog + 1, 5},
		{math.MaxInt, 0}, {math.MinInt, 0}, {math.MaxInt, math.MaxInt - 1}, {math.MinInt, math.MinInt}, {3, math.MinInt}, {3, math.MaxInt},
	} {
		for many := range 3 {
			includeRefuses(t, x[0], x[1], leavesOf(many), api.ErrSize)
		}
	}
}

// leads holds Ahead and Agree of a proof, 0 < old < size, against the tests' own.
func leads(t *testing.T, width, old, size int, oldRoot api.Digest, ds []api.Digest) (api.Digest, api.Digest) {
	t.Helper()
	h := &hand{width: width, ds: ds}
	wantOld := h.lead(old, 0, size, true, true, oldRoot)
	h.ds = ds
	want := h.lead(old, 0, size, false, true, oldRoot)
	what := named("Ahead", width, old, size)
	before, after, texts, why := tree.Ahead(width, old, size, oldRoot, ds)
	if before != wantOld || after != want || why != api.OK {
		t.Errorf("%s: %x, %x, %v", what, before, after, why)
	}
	sameTexts(t, what, texts, h.texts)
	agrees(t, width, old, size, before, after, ds, api.OK)
	return before, after
}

func agrees(t *testing.T, width, old, size int, oldRoot, root api.Digest, ds []api.Digest, want api.Errno) {
	t.Helper()
	if why := tree.Agree(width, old, size, oldRoot, root, ds); why != want {
		t.Errorf("Agree(%d, %d, %d) of %d digests: %v, must be %v", width, old, size, len(ds), why, want)
	}
}

// turned is d with one of its bits turned.
func turned(d api.Digest, bit int) api.Digest {
	d[bit/8] ^= 1 << (bit % 8)
	return d
}

func TestP6_8WhereADrawnListLeads(t *testing.T) {
	r := rand.New(rand.NewSource(6))
	for _, w := range someWidths() {
		for size := range 40 {
			for old := 1; old < size; old++ {
				ds := drawnList(r, len(whole{w, size, told}.proof(old)), 32)
				before, after := leads(t, w, old, size, drawn(r, 32), ds)
				bit := r.Intn(256)
				agrees(t, w, old, size, before, turned(after, bit), ds, api.ErrRoot)
				if old&(old-1) != 0 || w > 30 { // else the old root is summed, and at a few bytes two may lead to one
					agrees(t, w, old, size, turned(before, bit), after, ds, api.ErrRoot)
				}
			}
		}
	}
}

func TestP6_8WhereItLeadsAtGreatSizes(t *testing.T) {
	r := rand.New(rand.NewSource(7))
	for _, size := range far() {
		for _, old := range []int{1, 2, 3, size / 2, size/2 + 1, size / 3, size - 1} {
			if 0 < old && old < size {
				leads(t, 32, old, size, drawn(r, 32), drawnList(r, len(whole{32, size, told}.proof(old)), 32))
			}
		}
	}
}

func TestP6_8EveryDigestCounts(t *testing.T) {
	r := rand.New(rand.NewSource(8))
	for size := range 24 {
		for old := 1; old < size; old++ {
			ds := drawnList(r, len(whole{32, size, told}.proof(old)), 32)
			before, after := leads(t, 32, old, size, drawn(r, 32), ds)
			for i, d := range ds {
				ds[i] = turned(d, r.Intn(256))
				agrees(t, 32, old, size, before, after, ds, api.ErrRoot)
				ds[i] = d
			}
		}
	}
}

func TestP6_8AnOldTreeOfOneSpotIsItsRoot(t *testing.T) {
	l := leavesOf(16)
	for size := range 17 {
		for old := 1; old < size; old *= 2 {
			ds := whole{32, size, truly(32, l)}.proof(old)
			agrees(t, 32, old, size, mth(32, l[:old]), mth(32, l[:size]), ds, api.OK)
			agrees(t, 32, old, size, l[9], mth(32, l[:size]), ds, api.ErrRoot)
			before, after, _, why := tree.Ahead(32, old, size, l[9], ds)
			if before != l[9] || after == mth(32, l[:size]) || why != api.OK {
				t.Errorf("Ahead(%d, %d) from another root: %x, %x, %v", old, size, before, after, why)
			}
		}
	}
}

func TestP6_8ALikeSize(t *testing.T) {
	l := leavesOf(2)
	for _, w := range someWidths() {
		for _, size := range []int{1, 2, 5, 8, api.MaxLog} {
			agrees(t, w, size, size, l[0], l[0], nil, api.OK)
			agrees(t, w, size, size, l[0], l[0], []api.Digest{}, api.OK)
			agrees(t, w, size, size, l[0], l[1], nil, api.ErrRoot)
			agrees(t, w, size, size, l[0], l[0], l[:1], api.ErrProof)
			agrees(t, w, size, size, l[0], l[1], l[:1], api.ErrProof)
		}
		agrees(t, w, 0, 0, nothing(w), nothing(w), nil, api.OK)
		agrees(t, w, 0, 0, l[0], l[0], nil, api.ErrRoot)
		agrees(t, w, 0, 0, nothing(w), l[0], nil, api.ErrRoot)
		agrees(t, w, 0, 0, l[0], nothing(w), nil, api.ErrRoot)
		agrees(t, w, 0, 0, api.Digest{}, api.Digest{}, nil, api.ErrRoot)
		agrees(t, w, 0, 0, nothing(w), nothing(w), l[:1], api.ErrProof)
	}
	agrees(t, 1, 0, 0, nothing(32), nothing(32), nil, api.ErrRoot)
	agrees(t, 32, 0, 0, nothing(1), nothing(1), nil, api.ErrRoot)
}

func TestP6_8FromNothingOn(t *testing.T) {
	l := leavesOf(2)
	for _, w := range someWidths() {
		for _, size := range []int{1, 2, 5, 8, api.MaxLog} {
			agrees(t, w, 0, size, nothing(w), l[0], nil, api.OK)
			agrees(t, w, 0, size, nothing(w), nothing(w), nil, api.OK)
			agrees(t, w, 0, size, nothing(w), api.Digest{}, nil, api.OK)
			agrees(t, w, 0, size, l[0], l[1], nil, api.ErrRoot)
			agrees(t, w, 0, size, l[0], l[0], nil, api.ErrRoot)
			agrees(t, w, 0, size, nothing(w), l[0], l[:1], api.ErrProof)
			agrees(t, w, 0, size, l[0], l[0], l[:1], api.ErrProof)
		}
	}
	agrees(t, 1, 0, 5, nothing(32), l[0], nil, api.ErrRoot)
}

// aheadRefuses asks Ahead.
func aheadRefuses(t *testing.T, old, size int, ds []api.Digest, want api.Errno) {
	t.Helper()
	before, after, texts, why := tree.Ahead(32, old, size, told(tree.Spot{}), ds)
	if before != (api.Digest{}) || after != (api.Digest{}) || texts != nil || why != want {
		t.Errorf("Ahead(%d, %d) of %d digests: %x, %x, %x, %v", old, size, len(ds), before, after, texts, why)
	}
}

func TestP6_8AListOfAnotherLength(t *testing.T) {
	l := leavesOf(45)
	for size := range 35 {
		for old := range size + 1 {
			want := len(whole{32, size, told}.proof(old))
			for many := range 10 {
				if many == want {
					continue
				}
				agrees(t, 32, old, size, l[0], l[1], l[:many], api.ErrProof)
				if 0 < old && old < size {
					aheadRefuses(t, old, size, l[:many], api.ErrProof)
				}
			}
		}
	}
	for _, many := range []int{0, 1, 40, 42} {
		agrees(t, 32, api.MaxLog-1, api.MaxLog, l[0], l[1], l[:many], api.ErrProof)
		aheadRefuses(t, api.MaxLog-1, api.MaxLog, l[:many], api.ErrProof)
	}
}

func TestP6_8SizesThatMayNotBe(t *testing.T) {
	same := leavesOf(1)[0]
	for _, x := range [][2]int{
		{-1, 0}, {-1, 7}, {-1, -1}, {-2, -1}, {1, 0}, {8, 7}, {0, -1}, {0, api.MaxLog + 1}, {api.MaxLog + 1, api.MaxLog + 1}, {5, api.MaxLog + 1},
		{math.MinInt, 7}, {math.MinInt, math.MinInt}, {7, math.MinInt}, {0, math.MaxInt}, {math.MaxInt, math.MaxInt}, {math.MaxInt, 7},
	} {
		for many := range 3 {
			agrees(t, 32, x[0], x[1], same, same, leavesOf(many), api.ErrSize)
			aheadRefuses(t, x[0], x[1], leavesOf(many), api.ErrSize)
		}
	}
}

func TestP6_9AheadHasNoEndsOfItsOwn(t *testing.T) {
	for _, x := range [][2]int{{0, 0}, {0, 1}, {0, 7}, {0, api.MaxLog}, {1, 1}, {7, 7}, {api.MaxLog, api.MaxLog}} {
		for many := range 3 {
			aheadRefuses(t, x[0], x[1], leavesOf(many), api.ErrSize)
		}
	}
}

func TestP6_9EachSumIsAPartOfTheNextText(t *testing.T) {
	r := rand.New(rand.NewSource(9))
	for _, w := range someWidths() {
		for size := 1; size < 40; size++ {
			i := r.Intn(size)
			leaf := drawn(r, 32)
			ds := drawnList(r, len(whole{w, size, told}.path(i, 0, size)), 32)
			texts, _ := tree.Climb(w, size, i, leaf, ds)
			d := leaf
			for k, x := range texts {
				if len(x) != 65 || x[0] != digest.DNode || !bytes.Equal(x[1:33], d[:]) && !bytes.Equal(x[33:], d[:]) {
					t.Errorf("the %d-th text of Climb(%d, %d, %d): %x", k, w, size, i, x)
				}
				d = cut(sha256.Sum256(x), w)
			}
			if root, _ := tree.Include(w, size, i, leaf, ds); root != d {
				t.Errorf("Climb(%d, %d, %d) leads to %x", w, size, i, d)
			}
		}
	}
}

func TestP6_9TheOldRootIsLookedAtWhereTheOldTreeIsOneSpotAlone(t *testing.T) {
	r := rand.New(rand.NewSource(10))
	for size := range 24 {
		for old := 1; old < size; old++ {
			ds := drawnList(r, len(whole{32, size, told}.proof(old)), 32)
			a, b := drawn(r, 32), drawn(r, 32)
			beforeA, afterA, _, _ := tree.Ahead(32, old, size, a, ds)
			beforeB, afterB, _, _ := tree.Ahead(32, old, size, b, ds)
			if one := old&(old-1) == 0; one != (beforeA != beforeB) || one != (afterA != afterB) {
				t.Errorf("Ahead(%d, %d) from two roots: %x and %x, %x and %x", old, size, beforeA, beforeB, afterA, afterB)
			}
		}
	}
}

// apart tells whether no two texts share memory, their spare room included.
func apart(t *testing.T, what string, texts [][]byte) {
	t.Helper()
	for i, x := range texts {
		for k := range x[:cap(x)] {
			x[:cap(x)][k] = byte(i)
		}
	}
	for i, x := range texts {
		for _, c := range x {
			if c != byte(i) {
				t.Errorf("%s: the %d-th text shares memory", what, i)
				return
			}
		}
	}
}

func TestR2TextsShareNoMemory(t *testing.T) {
	l := leavesOf(8)
	for range 2 { // the second time behind a change of all that was answered
		way := whole{32, 7, told}.path(3, 0, 7)
		climbs(t, 32, 7, 3, l[3], way)
		texts, _ := tree.Climb(32, 7, 3, l[3], way)
		apart(t, "Climb", texts)
		joined := whole{32, 7, told}.proof(3)
		leads(t, 32, 3, 7, l[0], joined)
		_, _, texts, _ = tree.Ahead(32, 3, 7, l[0], joined)
		apart(t, "Ahead", texts)
	}
}

func TestR2ChecksChangeNothing(t *testing.T) {
	for size := 1; size < 20; size++ {
		for i := range size {
			ds, unchanged := spare(t, whole{1, size, told}.path(i, 0, size))
			tree.Include(1, size, i, api.Digest{}, ds)
			unchanged("Include")
			tree.Climb(1, size, i, api.Digest{}, ds)
			unchanged("Climb")
			ds, unchanged = spare(t, whole{1, size, told}.proof(i))
			tree.Agree(1, i, size, api.Digest{}, api.Digest{}, ds)
			unchanged("Agree")
			tree.Ahead(1, i, size, api.Digest{}, ds)
			unchanged("Ahead")
		}
	}
}
