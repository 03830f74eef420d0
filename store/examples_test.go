package store_test

import (
	"testing"

	"docket/api"
	"docket/disk"
	"docket/store"
)

// syncing is a scene of a Sync, behind what went ahead of it.
func syncing(t *testing.T, ahead func(d *disk.Disk, s *store.Store)) scene {
	return func() (*disk.Disk, func() error) {
		d, s := stored(t)
		ahead(d, s)
		return d, s.Sync
	}
}

func TestExample1(t *testing.T) {
	d := image(t, nil)
	makes(t, "Open", opening(func() *disk.Disk { return image(t, nil) }), "")
	s := open(t, d)
	quiet(t, "Append", d, func() { waits(t, s, "x") })
	if p, err := s.Get(0); string(p) != "x" || err != nil {
		t.Errorf("Get: %q, %v", p, err)
	}
	makes(t, "Sync", syncing(t, func(d *disk.Disk, s *store.Store) { waits(t, s, "x") }), "Create 0, Append 0, Sync 0, SyncNames")
	syncs(t, s)
	if n, err := d.Length("seg-00000"); n != 14 || err != nil {
		t.Errorf("Length: %d, %v", n, err)
	}
	quiet(t, "Sync again", d, func() { syncs(t, s) })
}

func TestExample2(t *testing.T) {
	makes(t, "Sync", syncing(t, func(d *disk.Disk, s *store.Store) {
		syncs(t, s, "x")
		waits(t, s, "y", "z")
		s.Drop()
		holds(t, "behind Drop", s, 1, "x")
		waits(t, s, "w")
		holds(t, "behind Append", s, 1, "x", "w")
	}), "Append 0, Sync 0")
}

func TestExample3(t *testing.T) {
	makes(t, "Sync", syncing(t, func(d *disk.Disk, s *store.Store) {
		waits(t, s, "a", "b")
		plan(d, 1, api.Room, 20)
		refused(t, "Sync", s.Sync(), "Append", "seg-00000", api.ErrSpace)
		holds(t, "behind it", s, 0)
		if n, _ := d.Length("seg-00000"); n != 20 || !s.Left() {
			t.Errorf("Length %d, Left %v", n, s.Left())
		}
		waits(t, s, "c")
	}), "Remove 0, SyncNames, Create 0, Append 0, Sync 0, SyncNames")
}

func TestExample4(t *testing.T) {
	ahead := func(d *disk.Disk, s *store.Store) {
		syncs(t, s, "a")
		waits(t, s, "b")
		plan(d, 1, api.Behind, 0)
		refused(t, "Sync", s.Sync(), "Sync", "seg-00000", api.ErrIO)
	}
	next := func(d *disk.Disk, s *store.Store) {
		ahead(d, s)
		waits(t, s, "c")
	}
	makes(t, "Sync", syncing(t, next), "Cut 0, Sync 0, Append 0, Sync 0")
	d, s := stored(t)
	next(d, s)
	syncs(t, s)
	stands(t, "behind it", d, segments("a", "c"))
	d, s = stored(t)
	ahead(d, s)
	d.Restart(api.Cut{})
	holds(t, "with power lost", open(t, d), 2, "a", "b")
}

// refusedSync syncs a record, and another one whose Sync is refused.
func refusedSync(t *testing.T) (*disk.Disk, *store.Store) {
	d, s := stored(t)
	syncs(t, s, "a")
	waits(t, s, "b")
	plan(d, 1, api.Ahead, 0)
	refused(t, "Sync", s.Sync(), "Sync", "seg-00000", api.ErrIO)
	return d, s
}

func TestExample5(t *testing.T) {
	makes(t, "Open", opening(func() *disk.Disk { d, _ := refusedSync(t); return d }), "Sync 0, SyncNames")
	d, first := refusedSync(t)
	holds(t, "the second", open(t, d), 2, "a", "b")
	refuses(t, "the first", first.Live(), "Live", api.ErrStale)
	d.Restart(api.Cut{})
	holds(t, "behind a Restart", open(t, d), 2, "a", "b")

	d, first = refusedSync(t)
	plan(d, 0, api.Ahead, 0)
	s, err := store.Open(d)
	refused(t, "Open", err, "Sync", "seg-00000", api.ErrIO)
	if s != nil {
		t.Errorf("a store beside a refusal")
	}
	syncs(t, first, "c")
	holds(t, "the first lives on", first, 2, "a", "c")
}

func TestExample6(t *testing.T) {
	makes(t, "Sync", syncing(t, func(d *disk.Disk, s *store.Store) {
		waits(t, s, "a")
		plan(d, 0, api.Ahead, 0)
		refused(t, "Sync", s.Sync(), "Create", "seg-00000", api.ErrIO)
		if !s.Left() {
			t.Errorf("nothing is left over")
		}
		waits(t, s, "b")
	}), "SyncNames, Create 0, Append 0, Sync 0, SyncNames")
}

func TestExample7(t *testing.T) {
	all := append(upTo(0), "x", "y") // sixteen of segment 0, two of segment 1
	cutting := func(sizes ...int) scene {
		return func() (*disk.Disk, func() error) {
			d, s := stored(t, all...)
			for _, n := range sizes[:len(sizes)-1] {
				if err := s.Cut(n); err != nil {
					t.Fatal(err)
				}
			}
			return d, func() error { return s.Cut(sizes[len(sizes)-1]) }
		}
	}
	makes(t, "Cut(17)", cutting(17), "Cut 1, Sync 1")
	makes(t, "Cut(16)", cutting(17, 16), "Remove 1, SyncNames")
	makes(t, "Cut(0)", cutting(17, 16, 0), "Remove 0, SyncNames")
	makes(t, "Cut(0) again", cutting(17, 16, 0, 0), "")
	d, call := cutting(17, 16, 0, 1)()
	quiet(t, "Cut(1)", d, func() { refuses(t, "Cut(1)", call(), "Cut", api.ErrArg) })
}

func TestExample8(t *testing.T) {
	makes(t, "Sync", syncing(t, func(d *disk.Disk, s *store.Store) {
		syncs(t, s, "a", "b")
		plan(d, 1, api.Ahead, 0)
		refused(t, "Cut", s.Cut(1), "Sync", "seg-00000", api.ErrIO)
		holds(t, "behind it", s, 1, "a")
		if !s.Left() {
			t.Errorf("nothing is left over")
		}
		waits(t, s, "c")
		holds(t, "behind Append", s, 1, "a", "c")
	}), "Sync 0, Append 0, Sync 0")
}

func TestExample9(t *testing.T) {
	files := segments(append(upTo(0), "x")...)
	delete(files, "seg-00000")
	corrupt(t, "seg-00000 is taken away", files)
	files = segments("a", "b", "c")
	files["seg-00000"][20] ^= 4
	corrupt(t, "one bit", files)
	makes(t, "an empty segment", opening(func() *disk.Disk { return image(t, map[string][]byte{"seg-00000": nil}) }), "Remove 0, SyncNames")
}

func TestExample10(t *testing.T) {
	d, s := stored(t, "a", "b")
	l := look(t, d)
	if err := s.Cut(0); err != nil {
		t.Fatal(err)
	}
	if p, err := l.Get(0); string(p) != "a" || err != nil {
		t.Errorf("Get: %q, %v", p, err)
	}
	holds(t, "the looked one", l, 2, "a", "b")
}
