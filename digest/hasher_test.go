package digest_test

import (
	"bytes"
	"crypto/sha256"
	"encoding/hex"
	"math/rand"
	"slices"
	"strings"
	"testing"

	"docket/api"
	"docket/digest"
)

// drawn makes n bytes that are the same in every run.
func drawn(r *rand.Rand, n int) []byte {
	b := make([]byte, n)
	r.Read(b)
	return b
}

// is checks a digest against another one.
func is(t *testing.T, what string, got, want api.Digest) {
	t.Helper()
	if got != want {
		t.Errorf("%s: %x, want %x", what, got, want)
	}
}

// reads checks a digest against its hexadecimal digits.
func reads(t *testing.T, what string, got api.Digest, want string) {
	t.Helper()
	if hex.EncodeToString(got[:]) != want {
		t.Errorf("%s: %x, want %s", what, got, want)
	}
}

// spare lays a text into a greater one, and tells it with its spare room and a check that neither has changed.
func spare(t *testing.T, text []byte) ([]byte, func(what string)) {
	whole := slices.Concat(text, bytes.Repeat([]byte{0xee}, 200))
	was := slices.Clone(whole)
	return whole[:len(text)], func(what string) {
		t.Helper()
		if !bytes.Equal(whole, was) {
			t.Errorf("%s: what was handed in has changed, or the room behind it", what)
		}
	}
}

func TestP2_1KnownSums(t *testing.T) {
	for _, c := range []struct{ text, want string }{
		{"", "e3b0c44298fc1c149afbf4c8996fb92427ae41e4649b934ca495991b7852b855"},
		{"abc", "ba7816bf8f01cfea414140de5dae2223b00361a396177a9cb410ff61f20015ad"},
		{"abcdbcdecdefdefgefghfghighijhijkijkljklmklmnlmnomnopnopq", "248d6a61d20638b8e5c026930c3e6039a33ce45964ff2167f6ecedd419db06c1"},
		{strings.Repeat("a", 1000000), "cdc76e5c9914fb9281a1c7e284d73e67f1809a48a497200e046d39ccc7112cd0"},
	} {
		reads(t, "Sum", digest.Sum([]byte(c.text)), c.want)
	}
	is(t, "Sum of nil", digest.Sum(nil), digest.Sum([]byte{}))
}

func TestP2_1EveryLength(t *testing.T) {
	r := rand.New(rand.NewSource(1))
	for n := range 600 {
		b, unchanged := spare(t, drawn(r, n))
		is(t, "Sum", digest.Sum(b), sha256.Sum256(b))
		unchanged("Sum")
		zeros, ones := make([]byte, n), bytes.Repeat([]byte{255}, n)
		is(t, "Sum of zeros", digest.Sum(zeros), sha256.Sum256(zeros))
		is(t, "Sum of 255s", digest.Sum(ones), sha256.Sum256(ones))
	}
	for _, n := range []int{1<<16 - 1, 1 << 16, 1<<20 + 55, 1<<20 + 56} {
		b := drawn(r, n)
		is(t, "Sum of a long text", digest.Sum(b), sha256.Sum256(b))
	}
}

// Eight times the length has more than 32 bits here.
func TestP2_1TheLengthHasEightBytes(t *testing.T) {
	if testing.Short() {
		t.Skip("sums half a GiB")
	}
	t.Parallel()
	piece := drawn(rand.New(rand.NewSource(2)), 1<<20)
	h, want := digest.New(), sha256.New()
	for range 1 << 9 {
		h.Write(piece)
		want.Write(piece)
	}
	h.Write([]byte{1})
	want.Write([]byte{1})
	is(t, "2^29 + 1 bytes", h.Sum(), api.Digest(want.Sum(nil)))
}

func TestP2_4NewIsOfTheEmptyText(t *testing.T) {
	h := digest.New()
	is(t, "New", h.Sum(), digest.Sum(nil))
	h.Write(nil)
	h.Write([]byte{})
	is(t, "behind empty pieces", h.Sum(), digest.Sum(nil))
	h.Write([]byte("case"))
	is(t, "behind a piece", h.Sum(), digest.Sum([]byte("case")))
	is(t, "another New", digest.New().Sum(), digest.Sum(nil))
}

// Every text of up to 150 bytes is handed over in two pieces, cut at every place.
func TestP2_4EveryCut(t *testing.T) {
	whole := drawn(rand.New(rand.NewSource(3)), 150)
	for n := range len(whole) + 1 {
		want := api.Digest(sha256.Sum256(whole[:n]))
		for cut := range n + 1 {
			h := digest.New()
			h.Write(whole[:cut])
			h.Write(whole[cut:n])
			is(t, "two pieces", h.Sum(), want)
		}
	}
}

func TestP2_4ManyPieces(t *testing.T) {
	r := rand.New(rand.NewSource(4))
	for _, most := range []int{2, 64, 65, 66, 300} {
		for range 100 {
			h := digest.New()
			var whole []byte
			for range 20 {
				p, unchanged := spare(t, drawn(r, r.Intn(most)))
				h.Write(p)
				unchanged("Write")
				whole = append(whole, p...)
				is(t, "Sum behind a piece", h.Sum(), sha256.Sum256(whole))
				is(t, "Sum once more", h.Sum(), sha256.Sum256(whole))
			}
		}
	}
}

func TestP2_4PiecesAreCopied(t *testing.T) {
	for _, n := range []int{1, 63, 64, 65, 130} {
		h := digest.New()
		p := bytes.Repeat([]byte{7}, n)
		h.Write(p)
		clear(p)
		h.Write([]byte{8})
		is(t, "behind a change of a piece", h.Sum(), digest.Sum(append(bytes.Repeat([]byte{7}, n), 8)))
	}
}

// grown is a hasher and the text that it has taken.
type grown struct {
	h    *digest.Hasher
	text []byte
}

func TestP2_4ForksGoTheirOwnWays(t *testing.T) {
	r := rand.New(rand.NewSource(5))
	all := []grown{{h: digest.New()}}
	for range 400 {
		i := r.Intn(len(all))
		if r.Intn(3) == 0 {
			all = append(all, grown{all[i].h.Fork(), slices.Clone(all[i].text)})
		}
		p := drawn(r, r.Intn(100))
		all[i].h.Write(p)
		all[i].text = append(all[i].text, p...)
		for _, g := range all {
			is(t, "one of many forks", g.h.Sum(), sha256.Sum256(g.text))
		}
		if t.Failed() {
			return
		}
	}
}

func TestP2_4AForkHasTakenTheSame(t *testing.T) {
	whole := drawn(rand.New(rand.NewSource(6)), 200)
	for n := range whole {
		h := digest.New()
		h.Write(whole[:n])
		g := h.Fork()
		if g == h {
			t.Fatal("Fork answers the hasher itself")
		}
		is(t, "a fork", g.Sum(), sha256.Sum256(whole[:n]))
		g.Write(whole[n:])
		is(t, "the first, behind a piece of the fork", h.Sum(), sha256.Sum256(whole[:n]))
		h.Write([]byte{1, 2})
		is(t, "the fork, behind a piece of the first", g.Sum(), sha256.Sum256(whole))
		is(t, "the first", h.Sum(), sha256.Sum256(slices.Concat(whole[:n], []byte{1, 2})))
	}
}
