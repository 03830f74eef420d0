package store_test

import (
	"fmt"
	"slices"
	"testing"

	"docket/api"
	"docket/disk"
	"docket/store"
)

func TestP5_7Get(t *testing.T) {
	synced := append(upTo(13), "x", "")
	d, s := stored(t, synced...)
	waits(t, s, "y", big, "", "z")
	all := append(slices.Clone(synced), "y", big, "", "z")
	for what, s := range map[string]*store.Store{"the opened one": s, "the looked one": look(t, d)} {
		l := all[:s.Next()]
		quiet(t, what, d, func() {
			for i, want := range l {
				if p, err := s.Get(i); string(p) != want || err != nil {
					t.Errorf("%s: Get(%d): %.20q, %v; want %.20q", what, i, p, err, want)
				}
			}
			for _, i := range []int{-1, -2, -1 << 62} {
				p, err := s.Get(i)
				refuses(t, what, err, "Get", api.ErrArg)
				if p != nil {
					t.Errorf("%s: Get(%d): %q", what, i, p)
				}
			}
			for _, i := range []int{len(l), len(l) + 1, 1 << 62} {
				p, err := s.Get(i)
				refuses(t, what, err, "Get", api.ErrSize)
				if p != nil {
					t.Errorf("%s: Get(%d): %q", what, i, p)
				}
			}
		})
	}
	if s.Next() != len(all) || s.Synced() != len(synced) || s.Left() {
		t.Errorf("Next %d, Synced %d, Left %v", s.Next(), s.Synced(), s.Left())
	}
}

func TestP5_7GetTellsNewMemory(t *testing.T) {
	d, s := stored(t, "abc")
	waits(t, s, "def", "ghi")
	for i := range 3 {
		p, _ := s.Get(i)
		clear(p[:cap(p)])
	}
	holds(t, "behind changes of answers", s, 1, "abc", "def", "ghi")
	p, _ := s.Get(1)
	s.Drop()
	waits(t, s, "xyz")
	if string(p) != "def" {
		t.Errorf("an answer has become %q", p)
	}
	syncs(t, s)
	stands(t, "behind changes of answers", d, segments("abc", "xyz"))
}

// gone tells the records and their numbers of one going through.
func gone(rows func(func(int, []byte) bool)) string {
	var l []string
	for i, p := range rows {
		l = append(l, fmt.Sprintf("%d%.9s", i, p))
	}
	return fmt.Sprint(l)
}

func TestP5_8Rows(t *testing.T) {
	d, s := stored(t, "a", "b")
	waits(t, s, "c", "d")
	quiet(t, "Rows", d, func() {
		for from, want := range map[int]string{-1 << 62: "[0a 1b 2c 3d]", -1: "[0a 1b 2c 3d]", 0: "[0a 1b 2c 3d]", 1: "[1b 2c 3d]", 2: "[2c 3d]", 3: "[3d]", 4: "[]", 5: "[]", 1<<63 - 1: "[]"} {
			rows := s.Rows(from)
			for range 2 { // gone through again it begins anew
				if got := gone(rows); got != want {
					t.Errorf("Rows(%d): %s, want %s", from, got, want)
				}
			}
		}
	})
	for n := range 4 {
		seen := 0
		for range s.Rows(0) {
			if seen++; seen > n {
				break
			}
		}
		if seen != n+1 {
			t.Errorf("%d steps, want %d", seen, n+1)
		}
	}
	if got := gone(look(t, d).Rows(1)); got != "[1b]" {
		t.Errorf("Rows of a looked store: %s", got)
	}
}

// Rows goes up to Next as it was at the call.
func TestP5_8WhatComesBehindTheCall(t *testing.T) {
	_, s := stored(t, "a")
	waits(t, s, "b")
	rows := s.Rows(0)
	waits(t, s, "c")
	if got := gone(rows); got != "[0a 1b]" {
		t.Errorf("behind an Append: %s", got)
	}
	empty := s.Rows(3)
	waits(t, s, "d")
	if got := gone(empty) + gone(s.Rows(3)); got != "[][3d]" {
		t.Errorf("from Next on: %s", got)
	}
	// Records that were synced at the call are told, also where a Sync comes in the midst.
	rows = s.Rows(0)
	syncs(t, s, "e")
	if got := gone(rows); got[:3] != "[0a" {
		t.Errorf("behind a Sync: %s", got)
	}
	var l []string
	for i, p := range s.Rows(0) {
		syncs(t, s, "f")
		l = append(l, fmt.Sprintf("%d%s", i, p))
	}
	if got := fmt.Sprint(l); got != "[0a 1b 2c 3d 4e]" {
		t.Errorf("with Syncs between: %s", got)
	}
}

// Whatever comes between it ends, and tells the records that were synced at the call and still are there.
func TestP5_8ItEnds(t *testing.T) {
	for what, c := range map[string]struct {
		change func(s *store.Store)
		tells  string
	}{
		"Drop":        {func(s *store.Store) { s.Drop() }, "[0a 1b 2c"},
		"Cut":         {func(s *store.Store) { s.Cut(1) }, "[0a"},
		"Cut to none": {func(s *store.Store) { s.Cut(0) }, "["},
		"other records": {func(s *store.Store) {
			s.Cut(1)
			for range 20 {
				s.Append([]byte("other"))
			}
		}, "[0a"},
		"other synced ones": {func(s *store.Store) {
			s.Cut(1)
			s.Append([]byte("other"))
			s.Sync()
		}, "[0a"},
	} {
		for _, at := range []int{-1, 0, 1, 2, 3, 4} {
			_, s := stored(t, "a", "b", "c")
			waits(t, s, "d", "e")
			rows := s.Rows(0)
			if at < 0 {
				c.change(s)
			}
			var l []string
			for i, p := range rows {
				l = append(l, fmt.Sprintf("%d%s", i, p))
				if i == at {
					c.change(s)
				}
			}
			got := fmt.Sprint(l)
			if len(l) > 5 || got[:min(len(got), len(c.tells))] != c.tells {
				t.Errorf("%s at %d: %s", what, at, got)
			}
		}
	}
}

func TestP5_8ItEndsWhereTheStoreIsDead(t *testing.T) {
	for what, kill := range map[string]func(d *disk.Disk){
		"power":        func(d *disk.Disk) { plan(d, 0, api.Lose, 0); d.SyncNames() },
		"a Restart":    func(d *disk.Disk) { d.Restart(d.Loose()) },
		"another Open": func(d *disk.Disk) { store.Open(d) },
	} {
		for at := range 4 {
			d, s := stored(t, "a", "b")
			waits(t, s, "c", "d")
			seen := 0
			for i := range s.Rows(0) {
				seen++
				if i == at {
					kill(d)
				}
			}
			if seen != at+1 {
				t.Errorf("%s at %d: %d steps", what, at, seen)
			}
			for range s.Rows(0) {
				t.Errorf("%s: a step of a dead store", what)
			}
		}
	}
}

// What a step lends is good till the next one, whatever is done meanwhile.
func TestP5_8WhatIsLent(t *testing.T) {
	_, s := stored(t, "abc")
	waits(t, s, "def")
	for i, p := range s.Rows(0) {
		s.Drop()
		waits(t, s, "xyz")
		syncs(t, s)
		if want := []string{"abc", "def"}[i]; i == 0 && string(p) != want {
			t.Errorf("what was lent at %d has become %q", i, p)
		}
	}
	_, s = stored(t)
	waits(t, s, "def", "ghi")
	for _, p := range s.Rows(0) {
		s.Drop()
		waits(t, s, "xyz")
		if string(p) != "def" {
			t.Errorf("what was lent has become %q", p)
		}
		break
	}
}

// What somebody else has spoilt is not told as a record.
func TestASegmentThatSomebodyElseSpoilt(t *testing.T) {
	for what, spoil := range map[string]func(d *disk.Disk) error{
		"cut":     func(d *disk.Disk) error { return d.Cut("seg-00000", 20) },
		"removed": func(d *disk.Disk) error { return d.Remove("seg-00000") },
		"turned": func(d *disk.Disk) error {
			d.Cut("seg-00000", 14)
			return d.Append("seg-00000", packed(7, "b"))
		},
	} {
		d, s := stored(t, "a", "b")
		waits(t, s, "c")
		if err := spoil(d); err != nil {
			t.Fatal(err)
		}
		p, err := s.Get(1)
		refuses(t, what, err, "Get", api.ErrCorrupt)
		if p != nil {
			t.Errorf("%s: %q", what, p)
		}
		if got := gone(s.Rows(1)); got != "[]" {
			t.Errorf("%s: Rows tells %s", what, got)
		}
		if p, err := s.Get(2); string(p) != "c" || err != nil {
			t.Errorf("%s: what waits is %q, %v", what, p, err)
		}
	}
}
