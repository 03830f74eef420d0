package store_test

import (
	"testing"

	"docket/api"
	"docket/disk"
	"docket/store"
)

// dead holds that every call of a store answers what Live does, with its own name, ahead of all else, and that nothing changes.
func dead(t *testing.T, s *store.Store, why api.Errno) {
	t.Helper()
	next, synced, left := s.Next(), s.Synced(), s.Left()
	refuses(t, "Live", s.Live(), "Live", why)
	for _, n := range []int{-1, 0, next, next + 1} {
		refuses(t, "Cut", s.Cut(n), "Cut", why)
		p, err := s.Get(n)
		refuses(t, "Get", err, "Get", why)
		if p != nil {
			t.Errorf("Get of a dead store: %q", p)
		}
		for i := range s.Rows(n) {
			t.Errorf("Rows of a dead store: %d", i)
		}
	}
	for _, p := range [][]byte{nil, make([]byte, api.MaxEvent+1)} {
		n, err := s.Append(p)
		refuses(t, "Append", err, "Append", why)
		if n != 0 {
			t.Errorf("Append of a dead store: %d", n)
		}
	}
	refuses(t, "Sync", s.Sync(), "Sync", why)
	if s.Next() != next || s.Synced() != synced || s.Left() != left {
		t.Errorf("a dead store: %d %d %v; it told %d %d %v", s.Next(), s.Synced(), s.Left(), next, synced, left)
	}
}

func TestP5_9Dead(t *testing.T) {
	for what, c := range map[string]struct {
		kill func(d *disk.Disk)
		why  api.Errno
	}{
		"power":                {func(d *disk.Disk) { plan(d, 0, api.Lose, 0); d.SyncNames() }, api.ErrDown},
		"a Restart":            {func(d *disk.Disk) { d.Restart(d.Loose()) }, api.ErrStale},
		"another Open":         {func(d *disk.Disk) { store.Open(d) }, api.ErrStale},
		"a claim":              {func(d *disk.Disk) { d.Claim("store") }, api.ErrStale},
		"both, without power":  {func(d *disk.Disk) { d.Claim("store"); plan(d, 0, api.Late, 0); d.SyncNames() }, api.ErrDown},
		"power and a Restart":  {func(d *disk.Disk) { plan(d, 0, api.Lose, 0); d.SyncNames(); d.Restart(d.Loose()) }, api.ErrStale},
		"a Restart and a look": {func(d *disk.Disk) { d.Restart(api.Cut{}); store.Look(d) }, api.ErrStale},
	} {
		d, s := stored(t, "a", "b")
		waits(t, s, "c")
		c.kill(d)
		quiet(t, what, d, func() { dead(t, s, c.why) })
		if s.Next() != 3 || s.Synced() != 2 || s.Left() {
			t.Errorf("%s: Next %d, Synced %d, Left %v", what, s.Next(), s.Synced(), s.Left())
		}
		s.Drop()
		if s.Next() != 2 || s.Synced() != 2 {
			t.Errorf("%s: Next %d, Synced %d behind a Drop", what, s.Next(), s.Synced())
		}
		d.Restart(api.Cut{})
		dead(t, s, api.ErrStale)
	}
}

func TestP5_9Alive(t *testing.T) {
	for what, stir := range map[string]func(d *disk.Disk){
		"another word's claim":    func(d *disk.Disk) { d.Claim("tiles"); d.Claim(""); d.Claim("Store") },
		"a refused Open":          func(d *disk.Disk) { d.Create("note"); plan(d, 1, api.Ahead, 0); store.Open(d) },
		"a look":                  func(d *disk.Disk) { store.Look(d) },
		"acts on other files":     func(d *disk.Disk) { d.Create("note"); d.SyncNames() },
		"a plan for a later time": func(d *disk.Disk) { plan(d, 100, api.Lose, 0) },
	} {
		d, s := stored(t, "a")
		waits(t, s, "b")
		stir(d)
		quiet(t, what, d, func() {
			refused(t, what, s.Live(), "", "", api.OK)
			holds(t, what, s, 1, "a", "b")
		})
		syncs(t, s)
	}
}

// Where power goes in a Sync or a Cut the store is dead behind it, and tells what stands then.
func TestP5_9PowerGoesInACall(t *testing.T) {
	for _, kind := range []int{api.Lose, api.Late} {
		for i := range 2 {
			d, s := stored(t, "a", "b")
			waits(t, s, "c")
			plan(d, i, kind, 0)
			refused(t, "Sync", s.Sync(), []string{"Append", "Sync"}[i], "seg-00000", api.ErrDown)
			if s.Next() != 2 || s.Synced() != 2 || !s.Left() {
				t.Errorf("Next %d, Synced %d, Left %v", s.Next(), s.Synced(), s.Left())
			}
			dead(t, s, api.ErrDown)
			d, s = stored(t, "a", "b")
			plan(d, i, kind, 0)
			refused(t, "Cut", s.Cut(1), []string{"Cut", "Sync"}[i], "seg-00000", api.ErrDown)
			if s.Next() != 1 || s.Synced() != 1 || !s.Left() {
				t.Errorf("Next %d, Synced %d, Left %v", s.Next(), s.Synced(), s.Left())
			}
			dead(t, s, api.ErrDown)
			d.Restart(api.Cut{})
			dead(t, s, api.ErrStale)
		}
	}
}

// Two stores over two disks have nothing in common.
func TestP5_9TwoDisks(t *testing.T) {
	d, s := stored(t, "a")
	e, o := stored(t, "b", "c")
	syncs(t, s, "x")
	d.Restart(api.Cut{})
	refuses(t, "one", s.Live(), "Live", api.ErrStale)
	holds(t, "the other", o, 2, "b", "c")
	stands(t, "the other", e, segments("b", "c"))
}

// Each refusal is an object of its own.
func TestP5_10TwoRefusals(t *testing.T) {
	d, s := stored(t)
	v := look(t, d)
	for what, call := range map[string]func() error{
		"Open":   func() error { _, err := store.Open(nil); return err },
		"Look":   func() error { _, err := store.Look(nil); return err },
		"Append": func() error { _, err := s.Append(make([]byte, api.MaxEvent+1)); return err },
		"Sync":   v.Sync,
		"Cut":    func() error { return s.Cut(1) },
		"Get":    func() error { _, err := s.Get(0); return err },
	} {
		one, other := call(), call()
		if one == nil || one == other || one.Error() == "" || one.Error() != other.Error() {
			t.Errorf("%s: %v, %v", what, one, other)
		}
	}
	d.Restart(api.Cut{})
	if s.Live() == s.Live() {
		t.Errorf("Live: one object twice")
	}
}
