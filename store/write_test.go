package store_test

import (
	"fmt"
	"slices"
	"strings"
	"testing"

	"docket/api"
	"docket/disk"
	"docket/store"
)

func TestP5_3Append(t *testing.T) {
	d, s := stored(t, "a")
	quiet(t, "Append", d, func() {
		for i, p := range []string{"b", "", big, "c"} {
			if n, err := s.Append([]byte(p)); n != i+1 || err != nil {
				t.Errorf("Append: %d, %v; want %d", n, err, i+1)
			}
		}
		if n, err := s.Append(nil); n != 5 || err != nil {
			t.Errorf("Append of no bytes: %d, %v", n, err)
		}
		for _, n := range []int{api.MaxEvent + 1, 2 * api.MaxEvent} {
			n, err := s.Append(make([]byte, n))
			refuses(t, "too long", err, "Append", api.ErrLong)
			if n != 0 {
				t.Errorf("a refused Append: %d", n)
			}
		}
	})
	holds(t, "they wait", s, 1, "a", "b", "", big, "c", "")
	stands(t, "they wait", d, segments("a"))
	syncs(t, s)
	stands(t, "they are laid down", d, segments("a", "b", "", big, "c", ""))
}

func TestP5_3WhatIsHandedInIsCopied(t *testing.T) {
	d, s := stored(t)
	p := append(make([]byte, 0, 10), "abc"...)
	spare := p[3:10]
	copy(spare, "spareXX")
	for range 2 {
		if _, err := s.Append(p); err != nil {
			t.Fatal(err)
		}
	}
	if string(p) != "abc" || string(spare) != "spareXX" {
		t.Errorf("what was handed in is %q, %q", p, spare)
	}
	clear(p)
	holds(t, "behind a change of it", s, 0, "abc", "abc")
	syncs(t, s)
	stands(t, "behind a change of it", d, segments("abc", "abc"))
}

// behind is a scene of a call of a store that has so many records and lets others wait.
func behind(t *testing.T, synced, waiting []string, call func(s *store.Store) error) scene {
	return func() (*disk.Disk, func() error) {
		d, s := stored(t, synced...)
		waits(t, s, waiting...)
		return d, func() error { return call(s) }
	}
}

var syncIt = (*store.Store).Sync

func TestP5_4TheActsOfASync(t *testing.T) {
	full := upTo(0)
	for what, c := range map[string]struct {
		synced, waiting []string
		want            string
	}{
		"nothing":                       {nil, nil, ""},
		"nothing behind some":           {[]string{"a"}, nil, ""},
		"the first one":                 {nil, []string{"a"}, "Create 0, Append 0, Sync 0, SyncNames"},
		"an empty one":                  {nil, []string{""}, "Create 0, Append 0, Sync 0, SyncNames"},
		"the first ones":                {nil, []string{"a", "b", "c"}, "Create 0, Append 0, Sync 0, SyncNames"},
		"behind others":                 {[]string{"a"}, []string{"b", "c"}, "Append 0, Sync 0"},
		"just room":                     {upTo(14), []string{"x"}, "Append 0, Sync 0"},
		"just no room":                  {upTo(13), []string{"x"}, "Create 1, Append 1, Sync 1, SyncNames"},
		"behind a full one":             {full, []string{"x", "y"}, "Create 1, Append 1, Sync 1, SyncNames"},
		"over the edge":                 {upTo(14), []string{"x", "y"}, "Append 0, Sync 0, Create 1, Append 1, Sync 1, SyncNames"},
		"three segments":                {[]string{"a"}, slices.Concat(upTo(14), upTo(0), []string{"x"}), "Append 0, Sync 0, Create 1, Append 1, Sync 1, SyncNames, Create 2, Append 2, Sync 2, SyncNames"},
		"two fresh segments at the end": {full, append(slices.Clone(full), ""), "Create 1, Append 1, Sync 1, SyncNames, Create 2, Append 2, Sync 2, SyncNames"},
	} {
		makes(t, what, behind(t, c.synced, c.waiting, syncIt), c.want)
		d, s := stored(t, c.synced...)
		waits(t, s, c.waiting...)
		syncs(t, s)
		all := slices.Concat(c.synced, c.waiting)
		stands(t, what, d, segments(all...))
		holds(t, what, s, len(all), all...)
		quiet(t, what, d, func() { syncs(t, s) })
		if s.Left() {
			t.Errorf("%s: something is left over", what)
		}
	}
}

// kinds are those of the faults behind which there is power.
var kinds = []int{api.Ahead, api.Behind, api.Tear, api.Room}

// A refused act, whichever, ends the Sync and is its answer; all that waited is forgotten, of the segments ahead too. The next Sync takes back what is left over.
func TestP5_4ARefusedSync(t *testing.T) {
	t.Parallel()
	synced := []string{"a"}
	waiting := slices.Concat(upTo(14), upTo(0), []string{"x"})
	made := strings.Split(did(t, behind(t, synced, waiting, syncIt)), ", ")
	if len(made) != 10 {
		t.Fatalf("%d acts", len(made))
	}
	for i, act := range made {
		for _, kind := range kinds {
			for _, part := range []int{0, 20, 1 << 20} {
				what := fmt.Sprint(act, ", kind ", kind, ", part ", part)
				d, s := stored(t, synced...)
				waits(t, s, waiting...)
				plan(d, i, kind, part)
				was := d.Acts()
				err := s.Sync()
				call, name, _ := strings.Cut(act, " ")
				if name != "" {
					name = "seg-0000" + name
				}
				why := api.ErrIO
				if kind == api.Room {
					why = api.ErrSpace
				}
				refused(t, what, err, call, name, why)
				if d.Acts() != was+i+1 || !s.Left() || s.Next() != len(synced) || s.Synced() != len(synced) {
					t.Fatalf("%s: %d acts, Left %v, Next %d", what, d.Acts()-was, s.Left(), s.Next())
				}
				syncs(t, s, "again")
				stands(t, what, d, segments(append(slices.Clone(synced), "again")...))
				if s.Left() {
					t.Errorf("%s: something is left over", what)
				}
			}
		}
	}
}

// A Sync with nothing that waits takes back what is left over.
func TestP5_4ASyncThatTakesBackAlone(t *testing.T) {
	left := func() (*disk.Disk, func() error) {
		d, s := stored(t, "a")
		waits(t, s, "b")
		plan(d, 0, api.Behind, 0)
		refused(t, "Sync", s.Sync(), "Append", "seg-00000", api.ErrIO)
		return d, s.Sync
	}
	makes(t, "Sync", left, "Cut 0, Sync 0")
	d, call := left()
	if err := call(); err != nil {
		t.Error(err)
	}
	stands(t, "behind it", d, segments("a"))
	quiet(t, "Sync again", d, func() { call() })
}

// Where the taking back ahead of it is refused nothing is laid down, and what waited is forgotten too.
func TestP5_4ARefusedTakingBack(t *testing.T) {
	for i, act := range []string{"Cut", "Sync"} {
		d, s := stored(t, "a")
		waits(t, s, "b")
		plan(d, 1, api.Ahead, 0)
		refused(t, "Sync", s.Sync(), "Sync", "seg-00000", api.ErrIO)
		waits(t, s, "c", "d")
		plan(d, i, api.Ahead, 0)
		refused(t, "the next", s.Sync(), act, "seg-00000", api.ErrIO)
		holds(t, "behind it", s, 1, "a")
		if !s.Left() {
			t.Errorf("nothing is left over")
		}
		syncs(t, s, "e")
		stands(t, "behind it", d, segments("a", "e"))
	}
}

// A disk that fills up lays a part, which is taken back when there is something to lay down again.
func TestP5_4AFullDisk(t *testing.T) {
	for room := range 40 {
		d, err := disk.New(room)
		if err != nil {
			t.Fatal(err)
		}
		s := open(t, d)
		waits(t, s, "ab", "c")
		if room >= 29 {
			syncs(t, s)
			continue
		}
		refused(t, "Sync", s.Sync(), "Append", "seg-00000", api.ErrSpace)
		if d.Used() != room || !s.Left() || s.Next() != 0 {
			t.Errorf("room %d: Used %d, Left %v, Next %d", room, d.Used(), s.Left(), s.Next())
		}
		if room >= 14 {
			syncs(t, s, "d")
			stands(t, "behind it", d, segments("d"))
		}
	}
}

func TestP5_5Drop(t *testing.T) {
	d, s := stored(t, "a")
	quiet(t, "Drop", d, func() {
		s.Drop()
		holds(t, "nothing waited", s, 1, "a")
		waits(t, s, "b", "c")
		s.Drop()
		holds(t, "two waited", s, 1, "a")
		waits(t, s, "d")
		s.Drop()
		s.Drop()
		if err := s.Sync(); err != nil {
			t.Error(err)
		}
	})
	syncs(t, s, "e")
	stands(t, "behind it", d, segments("a", "e"))
}

func TestP5_5WhatIsLeftOverStaysSo(t *testing.T) {
	d, s := stored(t, "a")
	waits(t, s, "b")
	plan(d, 0, api.Tear, 5)
	refused(t, "Sync", s.Sync(), "Append", "seg-00000", api.ErrIO)
	waits(t, s, "c")
	quiet(t, "Drop", d, s.Drop)
	if !s.Left() || s.Next() != 1 {
		t.Errorf("Left %v, Next %d", s.Left(), s.Next())
	}
	syncs(t, s, "d")
	stands(t, "behind it", d, segments("a", "d"))
}

func cutTo(size int) func(s *store.Store) error {
	return func(s *store.Store) error { return s.Cut(size) }
}

func TestP5_6TheActsOfACut(t *testing.T) {
	three := slices.Concat(upTo(0), upTo(0), []string{"x", "y"})
	for _, c := range []struct {
		records []string
		size    int
		want    string
	}{
		{nil, 0, ""},
		{[]string{"a", "b"}, 2, ""},
		{[]string{"a", "b"}, 1, "Cut 0, Sync 0"},
		{[]string{"a", ""}, 1, "Cut 0, Sync 0"},
		{[]string{"a", "b"}, 0, "Remove 0, SyncNames"},
		{three, 34, ""},
		{three, 33, "Cut 2, Sync 2"},
		{three, 32, "Remove 2, SyncNames"},
		{three, 31, "Remove 2, SyncNames, Cut 1, Sync 1"},
		{three, 17, "Remove 2, SyncNames, Cut 1, Sync 1"},
		{three, 16, "Remove 2, Remove 1, SyncNames"},
		{three, 1, "Remove 2, Remove 1, SyncNames, Cut 0, Sync 0"},
		{three, 0, "Remove 2, Remove 1, Remove 0, SyncNames"},
	} {
		what := fmt.Sprint("Cut to ", c.size, " of ", len(c.records))
		makes(t, what, behind(t, c.records, nil, cutTo(c.size)), c.want)
		makes(t, what, behind(t, c.records, []string{"w", big, big}, cutTo(c.size)), c.want)
		d, s := stored(t, c.records...)
		waits(t, s, "w")
		if err := s.Cut(c.size); err != nil {
			t.Fatal(err)
		}
		holds(t, what, s, c.size, c.records[:c.size]...)
		stands(t, what, d, segments(c.records[:c.size]...))
		if s.Left() {
			t.Errorf("%s: something is left over", what)
		}
		syncs(t, s, "next")
		stands(t, what, d, segments(append(slices.Clone(c.records[:c.size]), "next")...))
	}
}

func TestP5_6ASizeThatMayNotBe(t *testing.T) {
	d, s := stored(t, "a", "b")
	waits(t, s, "c")
	quiet(t, "Cut", d, func() {
		for _, n := range []int{-1, -1 << 62, 3, 4, 1 << 62} {
			refuses(t, "Cut", s.Cut(n), "Cut", api.ErrArg)
		}
	})
	holds(t, "a refused Cut", s, 2, "a", "b", "c") // what waits is not forgotten
	syncs(t, s)
	stands(t, "a refused Cut", d, segments("a", "b", "c"))
}

// Whatever becomes of its acts the store has that size from then on; a later Cut or Sync takes back by what is there.
func TestP5_6ARefusedCut(t *testing.T) {
	t.Parallel()
	three := slices.Concat(upTo(0), upTo(0), []string{"x", "y"})
	for _, size := range []int{33, 32, 20, 16, 1, 0} {
		made := strings.Split(did(t, behind(t, three, nil, cutTo(size))), ", ")
		for i := range made {
			for _, kind := range []int{api.Ahead, api.Behind} {
				what := fmt.Sprint("Cut to ", size, " refused at ", made[i], ", kind ", kind)
				refusedCut := func() (*disk.Disk, *store.Store) {
					d, s := stored(t, three...)
					waits(t, s, "w")
					plan(d, i, kind, 0)
					if err := s.Cut(size); err == nil {
						t.Fatalf("%s: it is not", what)
					}
					return d, s
				}
				d, s := refusedCut()
				if s.Next() != size || s.Synced() != size || !s.Left() {
					t.Errorf("%s: Next %d, Synced %d, Left %v", what, s.Next(), s.Synced(), s.Left())
				}
				refuses(t, what, s.Cut(size+1), "Cut", api.ErrArg)
				want := rest(made[i:], kind == api.Behind)
				makes(t, what+", again", func() (*disk.Disk, func() error) {
					d, s := refusedCut()
					return d, func() error { return s.Cut(size) }
				}, want)
				makes(t, what+", Sync", func() (*disk.Disk, func() error) { d, s := refusedCut(); return d, s.Sync }, want)
				syncs(t, s, "next")
				stands(t, what, d, segments(append(slices.Clone(three[:size]), "next")...))
			}
		}
	}
}

// rest tells the acts that a taking back makes anew: those from the refused one on, but that a Remove or a Cut that was done is not done again.
func rest(made []string, done bool) string {
	if done && !strings.HasPrefix(made[0], "Sync") {
		made = made[1:]
	}
	return strings.Join(made, ", ")
}

// What the store has tried of a segment is made safe by the taking back, also where nothing of it is to be seen.
func TestP5_6WhatWasTriedIsMadeSafe(t *testing.T) {
	for _, c := range []struct {
		synced    []string
		act, kind int
		want      string
	}{
		{nil, 0, api.Ahead, "SyncNames"},
		{nil, 0, api.Behind, "Remove 0, SyncNames"},
		{nil, 1, api.Ahead, "Remove 0, SyncNames"},
		{nil, 3, api.Ahead, "Remove 0, SyncNames"},
		{[]string{"a"}, 0, api.Ahead, "Sync 0"},
		{[]string{"a"}, 0, api.Behind, "Cut 0, Sync 0"},
		{[]string{"a"}, 1, api.Ahead, "Cut 0, Sync 0"},
		{[]string{"a"}, 1, api.Behind, "Cut 0, Sync 0"},
		{upTo(0), 0, api.Ahead, "SyncNames"},
		{upTo(0), 1, api.Ahead, "Remove 1, SyncNames, Sync 0"},
		{upTo(0), 2, api.Ahead, "Remove 1, SyncNames, Sync 0"},
		{upTo(0), 2, api.Behind, "Remove 1, SyncNames, Sync 0"},
		{upTo(0), 3, api.Ahead, "Remove 1, SyncNames"},
	} {
		left := func() (*disk.Disk, *store.Store) {
			d, s := stored(t, c.synced...)
			waits(t, s, "x")
			plan(d, c.act, c.kind, 0)
			if s.Sync() == nil {
				t.Fatal("Sync is not refused")
			}
			return d, s
		}
		what := fmt.Sprint(len(c.synced), " records, act ", c.act, ", kind ", c.kind)
		size := len(c.synced)
		makes(t, what, func() (*disk.Disk, func() error) { d, s := left(); return d, s.Sync }, c.want)
		makes(t, what, func() (*disk.Disk, func() error) {
			d, s := left()
			return d, func() error { return s.Cut(size) }
		}, c.want)
		d, s := left()
		if err := s.Sync(); err != nil || s.Left() {
			t.Errorf("%s: %v, Left %v", what, err, s.Left())
		}
		stands(t, what, d, segments(c.synced...))
	}
}

// What another store's refused Open has taken away already is not taken away again.
func TestP5_6WhatAnotherOneTookAway(t *testing.T) {
	for _, c := range []struct {
		synced []string
		want   string
	}{{[]string{"a"}, "Sync 0, Append 0, Sync 0"}, {nil, "SyncNames, Create 0, Append 0, Sync 0, SyncNames"}} {
		torn := func() (*disk.Disk, func() error) {
			d, s := stored(t, c.synced...)
			waits(t, s, "b")
			plan(d, 1-len(c.synced), api.Tear, 5)
			refused(t, "Sync", s.Sync(), "Append", "seg-00000", api.ErrIO)
			plan(d, 0, api.Behind, 0)
			if _, err := store.Open(d); err == nil {
				t.Fatal("Open is not refused")
			}
			waits(t, s, "c")
			return d, s.Sync
		}
		makes(t, fmt.Sprint(len(c.synced), " records"), torn, c.want)
		d, call := torn()
		if err := call(); err != nil {
			t.Fatal(err)
		}
		stands(t, "behind it", d, segments(append(slices.Clone(c.synced), "c")...))
	}
}

// Where nothing was cut off and nothing is left over no act is made, whatever lies on the disk.
func TestP5_6NothingToTakeBack(t *testing.T) {
	d, s := stored(t, "a")
	d.Append("seg-00000", []byte("by hand"))
	d.Create("seg-00001")
	waits(t, s, "b")
	quiet(t, "Cut", d, func() {
		refused(t, "Cut", s.Cut(1), "", "", api.OK)
		refused(t, "Sync", s.Sync(), "", "", api.OK)
	})
	holds(t, "behind it", s, 1, "a")
	// And what is there by hand is taken back with the rest.
	plan(d, 0, api.Ahead, 0)
	waits(t, s, "b")
	refused(t, "Sync", s.Sync(), "Append", "seg-00000", api.ErrIO)
	syncs(t, s, "c")
	stands(t, "behind it", d, segments("a", "c"))
}
