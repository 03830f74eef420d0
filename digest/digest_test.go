package digest_test

import (
	"bytes"
	"crypto/hmac"
	"crypto/sha256"
	"math"
	"math/rand"
	"slices"
	"strconv"
	"testing"

	"docket/api"
	"docket/digest"
)

// someWidths are widths within the bounds, at them and past them.
func someWidths() []int {
	return []int{math.MinInt, -256, -1, 0, 1, 2, 3, 16, 31, 32, 33, 64, 257, math.MaxInt}
}

// counted tells the width that a width counts as.
func counted(width int) int {
	if width < 1 {
		return 1
	}
	if width > 32 {
		return 32
	}
	return width
}

// cut is Cut, spelt another way.
func cut(d api.Digest, width int) api.Digest {
	var c api.Digest
	for i := range counted(width) {
		c[i] = d[i]
	}
	return c
}

func TestP2_2KnownMacs(t *testing.T) {
	rows := func(c byte, n int) []byte { return bytes.Repeat([]byte{c}, n) }
	for _, c := range []struct {
		key, msg []byte
		want     string
	}{
		{rows(0x0b, 20), []byte("Hi There"), "b0344c61d8db38535ca8afceaf0bf12b881dc200c9833da726e9376c2e32cff7"},
		{[]byte("Jefe"), []byte("what do ya want for nothing?"), "5bdcc146bf60754e6a042426089575c75a003f089d2739839dec58b964ec3843"},
		{rows(0xaa, 20), rows(0xdd, 50), "773ea91e36800e46854db8ebd09181a72959098b3ef8c122d9635514ced565fe"},
		{rows(0xaa, 131), []byte("Test Using Larger Than Block-Size Key - Hash Key First"), "60e431591ee0b67f0d8a26aacbf5b77f8e0bc6213728c5140546040f0ee37f54"},
		{nil, nil, "b613679a0814d9ec772f95d778c35fc5ff1697c493715653c6c712144292c5ad"},
	} {
		reads(t, "Mac", digest.Mac(c.key, c.msg), c.want)
	}
}

func TestP2_2EveryLengthOfAKey(t *testing.T) {
	r := rand.New(rand.NewSource(1))
	for n := range 200 {
		for _, m := range []int{0, 1, 32, 63, 64, 65, 200} {
			key, unchangedKey := spare(t, drawn(r, n))
			msg, unchangedMsg := spare(t, drawn(r, m))
			want := hmac.New(sha256.New, key)
			want.Write(msg)
			is(t, "Mac", digest.Mac(key, msg), api.Digest(want.Sum(nil)))
			unchangedKey("Mac")
			unchangedMsg("Mac")
		}
	}
}

func TestP2_2WhichKeysAreReplaced(t *testing.T) {
	msg := []byte("head 12")
	for _, n := range []int{0, 1, 32, 63, 64, 65, 66, 128} {
		key := bytes.Repeat([]byte{9}, n)
		sum := digest.Sum(key)
		if replaced := digest.Mac(key, msg) == digest.Mac(sum[:], msg); replaced != (n > 64) {
			t.Errorf("a key of %d bytes: replaced by its sum: %v", n, replaced)
		}
		filled := digest.Mac(key, msg) == digest.Mac(append(key, 0), msg)
		if filled != (n < 64) {
			t.Errorf("a key of %d bytes: alike with a zero behind it: %v", n, filled)
		}
	}
	if digest.Mac(nil, msg) != digest.Mac([]byte{}, msg) || digest.Mac([]byte("k"), nil) != digest.Mac([]byte("k"), []byte{}) {
		t.Errorf("nil and empty are not alike")
	}
	if digest.Mac([]byte("a"), []byte("b")) == digest.Mac([]byte("b"), []byte("a")) {
		t.Errorf("key and message change places")
	}
}

// panics tells what a call panics with; nil: it does not.
func panics(call func()) (with any) {
	defer func() { with = recover() }()
	call()
	return nil
}

func TestP2_3Must(t *testing.T) {
	b, unchanged := spare(t, drawn(rand.New(rand.NewSource(2)), 32))
	d := digest.Must(b)
	unchanged("Must")
	if !bytes.Equal(d[:], b) {
		t.Errorf("Must: %x of %x", d, b)
	}
	b[0]++
	if d[0] == b[0] {
		t.Errorf("Must keeps what it was handed")
	}
	is(t, "Must of zeros", digest.Must(make([]byte, 32)), api.Digest{})
}

func TestP2_3MustPanics(t *testing.T) {
	for _, n := range []int{0, 1, 9, 10, 31, 33, 64, 100, 65536} {
		want := "digest.Must: " + strconv.Itoa(n) + " bytes"
		for _, b := range [][]byte{make([]byte, n), make([]byte, n, n+64)} {
			if with := panics(func() { digest.Must(b) }); with != any(want) {
				t.Errorf("Must of %d bytes panics with %v, want %s", n, with, want)
			}
		}
	}
	if with := panics(func() { digest.Must(nil) }); with != any("digest.Must: 0 bytes") {
		t.Errorf("Must of nil panics with %v", with)
	}
}

func TestP2_5Cut(t *testing.T) {
	r := rand.New(rand.NewSource(3))
	for range 20 {
		d := api.Digest(drawn(r, 32))
		was := d
		for width := -3; width < 40; width++ {
			is(t, "Cut to "+strconv.Itoa(width), digest.Cut(d, width), cut(d, width))
		}
		for _, width := range someWidths() {
			is(t, "Cut to "+strconv.Itoa(width), digest.Cut(d, width), cut(d, width))
		}
		is(t, "what was cut", d, was)
	}
}

func TestP2_5CutTwice(t *testing.T) {
	d := digest.Sum([]byte("case"))
	for _, a := range someWidths() {
		for _, b := range someWidths() {
			is(t, "Cut twice", digest.Cut(digest.Cut(d, a), b), cut(d, min(a, b)))
		}
	}
}

// clash is Clash, by looking at all pairs.
func clash(width int, texts [][]byte) (int, int, bool) {
	for j := range texts {
		for i := range j {
			if !bytes.Equal(texts[i], texts[j]) && cut(sha256.Sum256(texts[i]), width) == cut(sha256.Sum256(texts[j]), width) {
				return i, j, true
			}
		}
	}
	return 0, 0, false
}

// clashes holds Clash against all pairs, and tells whether there was one.
func clashes(t *testing.T, what string, width int, texts [][]byte) bool {
	t.Helper()
	i, j, want := clash(width, texts)
	p, q, got := digest.Clash(width, texts...)
	if got != want {
		t.Errorf("%s at width %d: %v, want %v", what, width, got, want)
	} else if !want && (p != nil || q != nil) {
		t.Errorf("%s at width %d: %v and %v beside false", what, width, p, q)
	} else if want && (!bytes.Equal(p, texts[i]) || !bytes.Equal(q, texts[j])) {
		t.Errorf("%s at width %d: %v and %v, want those at %d and %d", what, width, p, q, i, j)
	}
	return want
}

func TestP2_8ClashIsTheFirstPair(t *testing.T) {
	r := rand.New(rand.NewSource(4))
	met, missed := 0, 0
	for range 400 {
		texts := make([][]byte, r.Intn(60))
		for i := range texts {
			texts[i] = drawn(r, r.Intn(3)) // short: some stand twice
		}
		for _, width := range []int{math.MinInt, 0, 1, 2, 32} {
			if clashes(t, "drawn texts", width, texts) {
				met++
			} else {
				missed++
			}
		}
	}
	if met < 100 || missed < 100 {
		t.Errorf("%d clashes and %d rows without one: too few to show anything", met, missed)
	}
}

func TestP2_8NoClash(t *testing.T) {
	a, b := []byte("a"), []byte("b")
	for _, width := range someWidths() {
		for _, texts := range [][][]byte{nil, {}, {a}, {nil}, {a, a}, {nil, {}}, {nil, nil, {}}, {a, a, slices.Clone(a)}} {
			if clashes(t, "alike texts", width, texts) {
				t.Errorf("%q: the test's own way is wrong", texts)
			}
		}
	}
	if clashes(t, "apart", 32, [][]byte{a, b, a, b, nil}) {
		t.Errorf("a clash of SHA-256")
	}
}

// ofOneByte finds n texts, unlike each other, whose sums begin with the byte first.
func ofOneByte(n int, first byte) [][]byte {
	var texts [][]byte
	for i := 0; len(texts) < n; i++ {
		text := []byte{byte(i >> 8), byte(i)}
		if sha256.Sum256(text)[0] == first {
			texts = append(texts, text)
		}
	}
	return texts
}

func TestP2_8WhichOfSeveralPairs(t *testing.T) {
	x, y := ofOneByte(3, 5), ofOneByte(3, 6)
	for _, c := range []struct {
		what  string
		texts [][]byte
	}{
		{"three of one sum", [][]byte{x[2], x[0], x[1]}},
		{"alike ones ahead", [][]byte{x[1], x[1], x[1], x[0]}},
		{"the second text that stands first", [][]byte{x[0], y[0], y[1], x[1]}},
		{"not the first text that stands first", [][]byte{x[0], y[0], y[2], x[2]}},
		{"alike ones between", [][]byte{x[0], y[0], x[0], y[0], y[1], x[1]}},
		{"the empty text too", append(ofOneByte(1, digest.Sum(nil)[0]), nil)},
		{"the empty text first", append([][]byte{nil}, ofOneByte(2, digest.Sum(nil)[0])...)},
	} {
		for _, width := range []int{math.MinInt, -1, 0, 1} {
			if !clashes(t, c.what, width, c.texts) {
				t.Errorf("%s: no clash", c.what)
			}
		}
		clashes(t, c.what, 32, c.texts)
		clashes(t, c.what, math.MaxInt, c.texts)
	}
}

func TestP2_8ClashAnswersCopies(t *testing.T) {
	x := ofOneByte(2, 7)
	a, unchangedA := spare(t, x[0])
	b, unchangedB := spare(t, x[1])
	p, q, _ := digest.Clash(1, a, b)
	for _, l := range [][]byte{p, q} {
		full := l[:cap(l)]
		for i := range full {
			full[i] ^= 0x55
		}
	}
	unchangedA("Clash, behind a change of its answer")
	unchangedB("Clash, behind a change of its answer")
	for i := range p {
		if p[i] != x[0][i]^0x55 || q[i] != x[1][i]^0x55 {
			t.Errorf("the two texts share memory: %v and %v", p, q)
		}
	}
	p, q, _ = digest.Clash(1, a, b)
	clear(a)
	clear(b)
	if !bytes.Equal(p, x[0]) || !bytes.Equal(q, x[1]) {
		t.Errorf("an answer changes with what was handed in")
	}
}
