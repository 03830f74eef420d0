package store_test

import (
	"bytes"
	"testing"

	"docket/api"
	"docket/disk"
	"docket/store"
)

// What a looked store tells stays as it was, whatever becomes of the disk.
func TestP5_2ALookedStoreStays(t *testing.T) {
	l := append(upTo(0), "x", "")
	for what, change := range map[string]func(d *disk.Disk, s *store.Store) error{
		"nothing":        func(d *disk.Disk, s *store.Store) error { return nil },
		"a record waits": func(d *disk.Disk, s *store.Store) error { _, err := s.Append([]byte("y")); return err },
		"a longer one": func(d *disk.Disk, s *store.Store) error {
			s.Append([]byte("y"))
			return s.Sync()
		},
		"a cut one":        func(d *disk.Disk, s *store.Store) error { return s.Cut(3) },
		"another one":      func(d *disk.Disk, s *store.Store) error { s.Cut(0); s.Append([]byte("other")); return s.Sync() },
		"none":             func(d *disk.Disk, s *store.Store) error { return s.Cut(0) },
		"a claim":          func(d *disk.Disk, s *store.Store) error { d.Claim("store"); return nil },
		"a segment is cut": func(d *disk.Disk, s *store.Store) error { return d.Cut("seg-00000", 1) },
		"a segment is taken away by hand": func(d *disk.Disk, s *store.Store) error {
			return d.Remove("seg-00001")
		},
		"a later Open": func(d *disk.Disk, s *store.Store) error { _, err := store.Open(d); return err },
	} {
		d, s := stored(t, l...)
		v := look(t, d)
		if err := change(d, s); err != nil {
			t.Fatalf("%s: %v", what, err)
		}
		quiet(t, what, d, func() { holds(t, what, v, len(l), l...) })
		refused(t, what, v.Live(), "", "", api.OK)
		if v.Left() {
			t.Errorf("%s: something is left over", what)
		}
	}
}

func TestP5_2ALookedStoreIsReadAlone(t *testing.T) {
	d, s := stored(t, "a", "b")
	v := look(t, d)
	waits(t, s, "c")
	quiet(t, "reading alone", d, func() {
		for _, p := range [][]byte{nil, []byte("c"), make([]byte, api.MaxEvent+1)} {
			n, err := v.Append(p)
			refuses(t, "Append", err, "Append", api.ErrArg)
			if n != 0 {
				t.Errorf("Append: %d", n)
			}
		}
		refuses(t, "Sync", v.Sync(), "Sync", api.ErrArg)
		for _, n := range []int{-1, 0, 1, 2, 3} {
			refuses(t, "Cut", v.Cut(n), "Cut", api.ErrArg)
		}
		v.Drop()
	})
	holds(t, "the looked one", v, 2, "a", "b")
	holds(t, "the opened one", s, 2, "a", "b", "c")
	if v.Left() || d.Claims("store") != 1 || s.Live() != nil {
		t.Errorf("Left %v, %d claims, Live %v", v.Left(), d.Claims("store"), s.Live())
	}
}

// A look at what another store has not synced finds what an Open would find there.
func TestP5_2WhatAnOpenWouldFind(t *testing.T) {
	d, s := stored(t, "a")
	for i, want := range [][]string{{"a"}, {"a", "b"}, {"a", "b", "c"}} {
		waits(t, s, "b", "c")
		plan(d, 0, api.Tear, []int{13, 14, 28}[i])
		refused(t, "Sync", s.Sync(), "Append", "seg-00000", api.ErrIO)
		quiet(t, "Look", d, func() { holds(t, "Look", look(t, d), len(want), want...) })
		if err := s.Cut(1); err != nil {
			t.Fatal(err)
		}
	}
	holds(t, "Look", look(t, d), 1, "a")
}

func TestP5_2ALookedStoreDies(t *testing.T) {
	d, _ := stored(t, "a")
	v := look(t, d)
	plan(d, 0, api.Late, 0)
	d.SyncNames()
	for _, why := range []api.Errno{api.ErrDown, api.ErrStale} {
		dead(t, v, why)
		if v.Next() != 1 || v.Synced() != 1 || v.Left() {
			t.Errorf("Next %d, Synced %d, Left %v", v.Next(), v.Synced(), v.Left())
		}
		d.Restart(api.Cut{})
	}
	holds(t, "a new look", look(t, d), 1, "a")
}

// A looked store hands out new memory, too.
func TestP5_2NewMemory(t *testing.T) {
	d, _ := stored(t, "abc")
	v := look(t, d)
	p, _ := v.Get(0)
	clear(p[:cap(p)])
	q, _ := v.Get(0)
	if !bytes.Equal(q, []byte("abc")) {
		t.Errorf("Get, behind a change of an answer: %q", q)
	}
}
