package digest_test

import (
	"bytes"
	"crypto/sha256"
	"encoding/binary"
	"math"
	"math/rand"
	"slices"
	"strconv"
	"strings"
	"sync"
	"testing"

	"docket/api"
	"docket/digest"
)

// summed is a call of the table, and the text that it sums by the document.
type summed struct {
	what string
	call func(width int) api.Digest
	text []byte
}

// pair makes a call of two digests.
func pair(what string, domain byte, f func(int, api.Digest, api.Digest) api.Digest, l, r api.Digest) summed {
	return summed{what, func(width int) api.Digest { return f(width, l, r) }, slices.Concat([]byte{domain}, l[:], r[:])}
}

func leaf(event []byte) summed {
	return summed{"Leaf", func(width int) api.Digest { return digest.Leaf(width, event) }, slices.Concat([]byte{0}, event)}
}

func entry(k api.Digest, e api.Entry) summed {
	text := binary.BigEndian.AppendUint64(slices.Concat([]byte{3}, k[:]), uint64(e.Count))
	return summed{"Entry", func(width int) api.Digest { return digest.Entry(width, k, e) }, append(text, e.Chain[:]...)}
}

// key has no width: its text is told by what follows.
func key(name string) summed {
	return summed{"Key", func(width int) api.Digest { return cut(digest.Key(name), width) }, append([]byte{6}, name...)}
}

func empty() summed {
	return summed{"Empty", func(width int) api.Digest { return digest.Empty(width, 0) }, []byte{5}}
}

func nothing() summed { return summed{"Nothing", digest.Nothing, nil} }

// pairs makes the three calls of two digests.
func pairs(l, r api.Digest) []summed {
	return []summed{pair("Node", 1, digest.Node, l, r), pair("Link", 2, digest.Link, l, r), pair("Branch", 4, digest.Branch, l, r)}
}

// near makes calls whose arguments are as near to each other as may be.
func near() []summed {
	a, b, last := api.Digest{}, api.Digest{1}, api.Digest{31: 1}
	c := api.Digest(bytes.Repeat([]byte{4}, 32))
	l := []summed{empty(), nothing()}
	for _, p := range [][2]api.Digest{{a, a}, {a, b}, {b, a}, {a, last}, {last, a}, {c, c}, {b, last}} {
		l = append(l, pairs(p[0], p[1])...)
		l = append(l, leaf(slices.Concat(p[0][:], p[1][:])), key(string(slices.Concat(p[0][:], p[1][:]))))
	}
	for _, n := range []int{0, 1, -1, 255, 256, 1 << 40, math.MaxInt, math.MinInt} {
		l = append(l, entry(a, api.Entry{Count: n, Chain: a}), entry(a, api.Entry{Count: n, Chain: b}), entry(last, api.Entry{Count: n, Chain: a}))
		whole := entry(c, api.Entry{Count: n, Chain: c}).text
		l = append(l, entry(c, api.Entry{Count: n, Chain: c}), leaf(whole[1:]), leaf(whole), key(string(whole[1:])))
	}
	for _, s := range []string{"", "\x00", "\x05", "\x06", "c-7", "c-70", "c-8", "\x00c-7", "\x06c-7", "case", strings.Repeat("z", 64)} {
		l = append(l, leaf([]byte(s)), key(s))
	}
	return l
}

func TestP2_6Domains(t *testing.T) {
	for i, d := range []int{digest.DLeaf, digest.DNode, digest.DLink, digest.DEntry, digest.DBranch, digest.DEmpty, digest.DKey, digest.DLog, digest.DEffects, digest.DSigned} {
		if d != i {
			t.Errorf("the domain at %d is %d", i, d)
		}
	}
}

func TestP2_6Text(t *testing.T) {
	for _, c := range []struct {
		domain int
		parts  []string
		want   string
	}{
		{0, nil, "\x00"}, {1, []string{""}, "\x01"}, {5, []string{"", "", ""}, "\x05"}, {9, []string{"a"}, "\x09a"},
		{2, []string{"ab", "", "c", "ab"}, "\x02abcab"}, {255, []string{"x"}, "\xffx"}, {256, []string{"x"}, "\x00x"}, {257, nil, "\x01"},
		{-1, []string{"y"}, "\xffy"}, {-256, []string{"y"}, "\x00y"}, {math.MaxInt, nil, "\xff"}, {math.MinInt, nil, "\x00"}, {math.MinInt + 3, nil, "\x03"},
	} {
		parts := make([][]byte, len(c.parts))
		for i, p := range c.parts {
			parts[i] = []byte(p)
		}
		if got := digest.Text(c.domain, parts...); string(got) != c.want {
			t.Errorf("Text(%d, %q): %q, want %q", c.domain, c.parts, got, c.want)
		}
		for _, width := range someWidths() {
			is(t, "Of", digest.Of(width, c.domain, parts...), cut(sha256.Sum256([]byte(c.want)), width))
		}
	}
	if string(digest.Text(7, nil, []byte("a"), nil)) != "\x07a" {
		t.Errorf("nil and empty parts are not alike")
	}
}

func TestP2_6TextIsNewMemory(t *testing.T) {
	a, unchangedA := spare(t, []byte("ab"))
	b, unchangedB := spare(t, []byte("c"))
	parts := append(make([][]byte, 0, 4), a, b, nil)
	for _, call := range []func(){
		func() { digest.Text(1, parts...) }, func() { digest.Text(1, a) }, func() { digest.Of(32, 1, parts...) }, func() { digest.Leaf(32, a) },
	} {
		call()
		unchangedA("a call over parts")
		unchangedB("a call over parts")
	}
	if len(parts) != 3 || string(parts[0]) != "ab" || string(parts[1]) != "c" || parts[:4][3] != nil {
		t.Errorf("the list of the parts has changed")
	}
	first, second := digest.Text(1, parts...), digest.Text(1, parts...)
	full := second[:cap(second)]
	for i := range full {
		full[i] = 77
	}
	unchangedA("Text, behind a change of its answer")
	if string(first) != "\x01abc" {
		t.Errorf("two answers share memory: %q", first)
	}
	clear(a)
	if string(first) != "\x01abc" {
		t.Errorf("an answer changes with what was handed in: %q", first)
	}
}

func TestP2_6EachCallSumsItsText(t *testing.T) {
	r := rand.New(rand.NewSource(1))
	calls := near()
	for range 50 {
		a, b := api.Digest(drawn(r, 32)), api.Digest(drawn(r, 32))
		calls = append(calls, pairs(a, b)...)
		calls = append(calls, entry(a, api.Entry{Count: int(r.Uint64()), Chain: b}), leaf(drawn(r, r.Intn(300))), key(string(drawn(r, r.Intn(80)))))
	}
	for _, c := range calls {
		for _, width := range someWidths() {
			is(t, c.what+" at "+strconv.Itoa(width), c.call(width), cut(sha256.Sum256(c.text), width))
		}
	}
	event := drawn(r, api.MaxEvent)
	is(t, "Leaf of the greatest event", digest.Leaf(32, event), sha256.Sum256(append([]byte{0}, event...)))
}

func TestP2_6KeyHasNoWidth(t *testing.T) {
	for _, name := range []string{"", "c-7", "\xff\x00", strings.Repeat("k", 100)} {
		is(t, "Key", digest.Key(name), sha256.Sum256([]byte("\x06"+name)))
	}
}

func TestP2_6Empty(t *testing.T) {
	for _, width := range someWidths() {
		want := cut(sha256.Sum256([]byte{5}), width)
		for height := range 257 {
			if height > 0 {
				want = cut(sha256.Sum256(slices.Concat([]byte{4}, want[:], want[:])), width)
			}
			is(t, "Empty at "+strconv.Itoa(width)+", height "+strconv.Itoa(height), digest.Empty(width, height), want)
		}
		for _, height := range []int{257, 300, 512, math.MaxInt} {
			is(t, "Empty above the rows", digest.Empty(width, height), want)
		}
		for _, height := range []int{math.MinInt, -256, -1} {
			is(t, "Empty below the rows", digest.Empty(width, height), digest.Of(width, 5))
		}
	}
}

// The texts are those that the calls sum, as TestP2_6EachCallSumsItsText shows.
func TestP2_7Apart(t *testing.T) {
	met := map[string]string{}
	for _, c := range near() {
		if other, twice := met[string(c.text)]; twice {
			t.Errorf("%s and %s sum one text: %q", c.what, other, c.text)
		}
		met[string(c.text)] = c.what
	}
	sums := map[api.Digest]string{}
	for _, c := range near() {
		d := c.call(32)
		if other, twice := sums[d]; twice {
			t.Errorf("%s and %s have one sum", c.what, other)
		}
		sums[d] = c.what
	}
}

// asked makes all calls but a Hasher's, and tells their answers one behind the other.
func asked(width int) []byte {
	var all []byte
	for _, c := range near() {
		d := c.call(width)
		all = append(all, d[:]...)
	}
	d, m, o, e := digest.Cut(digest.Sum([]byte("case")), width), digest.Mac([]byte("clerk"), []byte("head")), digest.Of(width, 8, []byte("x")), digest.Empty(width, 20)
	p, q, _ := digest.Clash(1, bytes.Split(bytes.Repeat([]byte("abcdefg."), 90), nil)...)
	u, v, _ := digest.Clash(width, ofOneByte(3, 9)...)
	must := digest.Must(d[:])
	return slices.Concat(all, d[:], m[:], o[:], e[:], p, q, u, v, must[:], digest.Text(width, d[:], m[:]))
}

func TestP2_9AnswersHangOnArgumentsAlone(t *testing.T) {
	was := map[int][]byte{}
	for _, width := range someWidths() {
		was[width] = asked(width)
	}
	h := digest.New()
	h.Write([]byte("half a text"))
	panics(func() { digest.Must(nil) })
	var group sync.WaitGroup
	for _, width := range slices.Backward(someWidths()) {
		group.Go(func() {
			for range 3 {
				if !bytes.Equal(asked(width), was[width]) {
					t.Errorf("asked again at width %d: another answer", width)
				}
			}
		})
	}
	group.Wait()
	is(t, "a hasher among them", h.Sum(), digest.Sum([]byte("half a text")))
}

func TestExamples1To5(t *testing.T) {
	reads(t, "1, one block", digest.Sum([]byte("the third case of the docket")), "449470576275301710dea51662db87cb2e4333d29dfa23e0b70eb377198b4f5b")
	reads(t, "1, two blocks", digest.Sum([]byte("a docket is read from its first event to its last, twice")), "2fb25abeaa79059c6a87d1783b0d7abccffee13961d5c9e2455ccc43f8825279")
	reads(t, "2", digest.Mac([]byte("clerk"), []byte("head 12")), "dcc5a7a85754a9e1837b0cb087e7a307eb0d50cd3e79f45d0527d08918c0a6f9")
	is(t, "3, its text", digest.Leaf(32, []byte("case")), digest.Sum([]byte{0, 99, 97, 115, 101}))
	reads(t, "3", digest.Leaf(32, []byte("case")), "89385df7a1aa5c7187513bf42dcbf96ad4137077fdc2102d9f2c35489b837486")
	is(t, "3, at width 2", digest.Leaf(2, []byte("case")), api.Digest{0x89, 0x38})
	is(t, "4", digest.Key("c-7"), digest.Sum([]byte{6, 99, 45, 55}))
	is(t, "4, empty", digest.Key(""), digest.Sum([]byte{6}))
	reads(t, "5, height 0", digest.Empty(32, 0), "e77b9a9ae9e30b0dbdb6f510a264ef9de781501d7b6b92ae89eb059c5ab743db")
	reads(t, "5, height 1", digest.Empty(32, 1), "6537130879f8129ceb7ce8ed843394a12d6552209e314e261006202f48098504")
	is(t, "5, at width 1", digest.Empty(1, 1), api.Digest{digest.Branch(1, digest.Empty(1, 0), digest.Empty(1, 0))[0]})
}

func TestExamples6To8(t *testing.T) {
	h := digest.New()
	h.Write([]byte("ca"))
	g := h.Fork()
	g.Write([]byte("se"))
	is(t, "6, the first", h.Sum(), digest.Sum([]byte("ca")))
	is(t, "6, the fork", g.Sum(), digest.Sum([]byte("case")))
	if with := panics(func() { digest.Must(make([]byte, 31)) }); with != any("digest.Must: 31 bytes") {
		t.Errorf("7: %v", with)
	}
	if p, q, met := digest.Clash(32, []byte("a"), []byte("b"), []byte("a")); p != nil || q != nil || met {
		t.Errorf("8: %q and %q, %v", p, q, met)
	}
	d := digest.Sum([]byte("case"))
	is(t, "8, Cut to 0", digest.Cut(d, 0), digest.Cut(d, 1))
	is(t, "8, Cut to 40", digest.Cut(d, 40), d)
}
