package store_test

import (
	"bytes"
	"fmt"
	"maps"
	"slices"
	"strings"
	"testing"

	"docket/api"
	"docket/disk"
	"docket/store"
)

// corrupt holds that neither Open nor Look takes these files, and that nothing is done of either.
func corrupt(t *testing.T, what string, files map[string][]byte) {
	t.Helper()
	d := image(t, files)
	quiet(t, what, d, func() {
		s, err := store.Open(d)
		refuses(t, what, err, "Open", api.ErrCorrupt)
		l, err := store.Look(d)
		refuses(t, what, err, "Look", api.ErrCorrupt)
		if s != nil || l != nil || d.Claims("store") != 0 {
			t.Errorf("%s: stores %v, %v, %d claims", what, s, l, d.Claims("store"))
		}
	})
	stands(t, what, d, files)
}

func TestP5_1ADiskThatIsNone(t *testing.T) {
	s, err := store.Open(nil)
	refuses(t, "no disk", err, "Open", api.ErrArg)
	l, err := store.Look(nil)
	refuses(t, "no disk", err, "Look", api.ErrArg)
	if s != nil || l != nil {
		t.Errorf("stores of no disk: %v, %v", s, l)
	}
}

// Without power nothing is told of what is held, and a disk that is spoilt answers as one that is not.
func TestP5_1ADiskWithoutPower(t *testing.T) {
	for _, files := range []map[string][]byte{nil, segments("a"), {"seg-00001": nil}} {
		d := image(t, files)
		plan(d, 0, api.Lose, 0)
		d.SyncNames()
		quiet(t, "no power", d, func() {
			_, err := store.Open(d)
			refuses(t, "no power", err, "Open", api.ErrDown)
			_, err = store.Look(d)
			refuses(t, "no power", err, "Look", api.ErrDown)
		})
		if d.Claims("store") != 0 {
			t.Errorf("%d claims", d.Claims("store"))
		}
	}
}

func TestP5_1AFreshDisk(t *testing.T) {
	d := image(t, nil)
	quiet(t, "a fresh disk", d, func() {
		s := open(t, d)
		holds(t, "a fresh disk", s, 0)
		if s.Left() || s.Live() != nil || d.Claims("store") != 1 {
			t.Errorf("Left %v, Live %v, %d claims", s.Left(), s.Live(), d.Claims("store"))
		}
	})
}

// Where nothing is torn, empty or not safe Open makes no act, and finds what is there.
func TestP5_1WholeSegments(t *testing.T) {
	for what, l := range map[string][]string{
		"one record":            {"a"},
		"an empty record":       {""},
		"many":                  {"a", "", "bc", strings.Repeat("d", 300), big},
		"a full segment":        upTo(0),
		"just no room":          append(upTo(frameOf("x")-1), "x"),
		"just room":             append(upTo(frameOf("x")), "x"),
		"room for the shortest": append(upTo(frameOf("")), ""),
		"three segments":        slices.Concat(upTo(12), upTo(0), []string{"x", "y"}),
	} {
		d := image(t, segments(l...))
		quiet(t, what, d, func() { holds(t, what, look(t, d), len(l), l...) })
		quiet(t, what, d, func() { holds(t, what, open(t, d), len(l), l...) })
	}
}

// frameOf tells how many bytes a record's frame has.
func frameOf(p string) int { return len(packed(0, p)) }

// The digits of a segment's name are of base 16.
func TestP5_1ManySegments(t *testing.T) {
	var l []string
	for range 17 {
		l = append(l, upTo(0)...)
	}
	d, s := stored(t)
	syncs(t, s, append(l, "x")...)
	files := segments(append(l, "x")...)
	for _, name := range []string{"seg-00000", "seg-00009", "seg-0000a", "seg-0000f", "seg-00010", "seg-00011"} {
		if files[name] == nil {
			t.Fatalf("no %s", name)
		}
	}
	stands(t, "many segments", d, files)
	holds(t, "many segments", open(t, d), len(l)+1, append(l, "x")...)
}

func TestP5_1AGap(t *testing.T) {
	whole := segments(slices.Concat(upTo(0), upTo(0), []string{"x"})...)
	for _, away := range [][]int{{0}, {1}, {0, 1}} {
		files := maps.Clone(whole)
		for _, k := range away {
			delete(files, segmentName(k))
		}
		corrupt(t, fmt.Sprint("without ", away), files)
	}
	for _, k := range []int{2, 10, 16, 0x100, api.MaxSegments - 1} {
		corrupt(t, fmt.Sprint("with segment ", k), with(segments("a"), segmentName(k), nil))
		corrupt(t, fmt.Sprint("segment ", k, " alone"), map[string][]byte{segmentName(k): packed(0, "a")})
	}
}

// Any one bit that is turned is found, wherever it is.
func TestP5_1ASpoiltBit(t *testing.T) {
	whole := segments("one", "", "three")["seg-00000"]
	for i := range 8 * len(whole) {
		b := bytes.Clone(whole)
		b[i/8] ^= 1 << (i % 8)
		corrupt(t, fmt.Sprint("bit ", i), map[string][]byte{"seg-00000": b})
	}
}

func TestP5_1ASpoiltSegment(t *testing.T) {
	a := packed(0, "a")
	full := upTo(0)
	files := segments(append(full, "x", "y")...)
	turned := func(k, at int) map[string][]byte {
		b := bytes.Clone(files[segmentName(k)])
		b[at] ^= 1
		return with(files, segmentName(k), b)
	}
	for what, files := range map[string]map[string][]byte{
		"no frame's byte behind a frame":      {"seg-00000": append(bytes.Clone(a), 0)},
		"no frame's byte alone":               {"seg-00000": {0}},
		"the same frame again":                {"seg-00000": slices.Concat(a, a)},
		"another number":                      {"seg-00000": packed(1, "a")},
		"a number left out":                   {"seg-00000": slices.Concat(a, packed(2, "b"))},
		"a bit of the first segment":          turned(0, api.MaxSegment/2),
		"the last byte of the first segment":  turned(0, api.MaxSegment-1),
		"the last byte of the last one":       turned(1, 2*14-1),
		"the last segment again":              with(files, "seg-00002", files["seg-00001"]),
		"its numbers begin anew":              with(files, "seg-00001", packed(0, "x")),
		"the first one torn":                  with(files, "seg-00000", files["seg-00000"][:api.MaxSegment-1]),
		"the first one torn, the last empty":  with(with(files, "seg-00000", files["seg-00000"][:api.MaxSegment-1]), "seg-00001", nil),
		"the first one a beginning alone":     {"seg-00000": a[:5], "seg-00001": a},
		"the first one empty":                 with(files, "seg-00000", nil),
		"the middle one empty":                {"seg-00000": files["seg-00000"], "seg-00001": nil, "seg-00002": packed(16, "x")},
		"the middle and the last one empty":   {"seg-00000": files["seg-00000"], "seg-00001": nil, "seg-00002": nil},
		"both empty":                          {"seg-00000": nil, "seg-00001": nil},
		"the middle one a beginning alone":    {"seg-00000": files["seg-00000"], "seg-00001": packed(16, "x")[:9], "seg-00002": packed(16, "x")},
		"the last one torn with a wrong byte": with(files, "seg-00001", append(packed(16, "x"), 209, 0, 2)),
	} {
		corrupt(t, what, files)
	}
}

// A whole frame lies where the lengths say and nowhere else.
func TestP5_1AFrameInAnotherSegment(t *testing.T) {
	apart := func(l []string, p string) map[string][]byte {
		return with(segments(l...), segmentName(len(segments(l...))), packed(len(l), p))
	}
	together := func(l []string, p string) map[string][]byte {
		files := segments(l...)
		k := segmentName(len(files) - 1)
		files[k] = append(files[k], packed(len(l), p)...)
		return files
	}
	corrupt(t, "the second record begins a segment", apart([]string{"a"}, "b"))
	corrupt(t, "there was just room", apart(upTo(frameOf("x")), "x"))
	corrupt(t, "there was just room for no bytes", apart(upTo(frameOf("")), ""))
	corrupt(t, "there was just no room", together(upTo(frameOf("x")-1), "x"))
	corrupt(t, "a full segment and one more", together(upTo(0), ""))
	corrupt(t, "there was just room in segment 1", apart(slices.Concat(upTo(0), upTo(frameOf("x"))), "x"))
	corrupt(t, "there was just no room in segment 1", together(slices.Concat(upTo(0), upTo(frameOf("x")-1)), "x"))
	for _, l := range [][]string{upTo(frameOf("x") - 1), slices.Concat(upTo(0), upTo(frameOf("x")-1))} {
		holds(t, "where it lies rightly", open(t, image(t, apart(l, "x"))), len(l)+1, append(slices.Clone(l), "x")...)
	}
}

// Other files are not the store's, whatever they hold, and stay as they are.
func TestP5_1OtherFiles(t *testing.T) {
	others := map[string][]byte{}
	for _, name := range []string{"seg-00fa0", "seg-fffff", "seg-0000g", "seg-000000", "seg-000001", "seg-0000", "seg-", "seg", "seg-0-001", "seg-00001.new", "seg-.0001", "seg-00-01", "aseg-00001", "seg-1", "seg.00001", "note", "tiles", "0x1", "00001"} {
		others[name] = []byte("z")
	}
	for _, l := range [][]string{nil, {"a", "b"}} {
		files := segments(l...)
		maps.Copy(files, others)
		d := image(t, files)
		quiet(t, "other files", d, func() { holds(t, "other files", open(t, d), len(l), l...) })
		s := open(t, d)
		syncs(t, s, "c")
		if err := s.Cut(0); err != nil {
			t.Error(err)
		}
		stands(t, "other files", d, others)
	}
}

// What is torn is taken away, at whichever byte it ends.
func TestP5_1ATornEnd(t *testing.T) {
	next := packed(2, "three")
	for n := 1; n < len(next); n++ {
		files := segments("one", "two")
		files["seg-00000"] = append(files["seg-00000"], next[:n]...)
		makes(t, fmt.Sprint(n, " bytes"), opening(func() *disk.Disk { return image(t, files) }), "Cut 0, Sync 0, SyncNames")
		d := image(t, files)
		holds(t, "looked", look(t, d), 2, "one", "two")
		holds(t, "opened", open(t, d), 2, "one", "two")
		stands(t, fmt.Sprint(n, " bytes"), d, segments("one", "two"))
	}
}

func TestP5_1ATornEndOfALaterSegment(t *testing.T) {
	l := append(upTo(13), "x") // too little room: "x" lies in segment 1
	whole := segments(l...)
	torn := with(whole, "seg-00001", append(bytes.Clone(whole["seg-00001"]), 209, 0))
	makes(t, "a later segment", opening(func() *disk.Disk { return image(t, torn) }), "Cut 1, Sync 1, SyncNames")
	d := image(t, torn)
	holds(t, "a later segment", open(t, d), 17, l...)
	stands(t, "a later segment", d, whole)
	// What is torn need not be what could lie there: it goes all the same.
	over := with(segments(upTo(0)...), "seg-00000", append(segments(upTo(0)...)["seg-00000"], 209))
	makes(t, "behind a full segment", opening(func() *disk.Disk { return image(t, over) }), "Cut 0, Sync 0, SyncNames")
	d = image(t, over)
	holds(t, "behind a full segment", open(t, d), 16, upTo(0)...)
	stands(t, "behind a full segment", d, segments(upTo(0)...))
}

// A last segment without a whole frame is removed.
func TestP5_1ASegmentWithoutAFrame(t *testing.T) {
	frame := packed(0, "one")
	for n := range len(frame) {
		files := map[string][]byte{"seg-00000": frame[:n], "note": {1}}
		makes(t, "segment 0", opening(func() *disk.Disk { return image(t, files) }), "Remove 0, SyncNames")
		d := image(t, files)
		holds(t, "looked", look(t, d), 0)
		holds(t, "opened", open(t, d), 0)
		stands(t, "opened", d, map[string][]byte{"note": {1}})
	}
	for _, l := range [][]string{{"a"}, upTo(0)} { // with room in segment 0, too
		next := packed(len(l), "one")
		for _, n := range []int{0, 1, 9, len(next) - 1} {
			files := with(segments(l...), "seg-00001", next[:n])
			makes(t, "segment 1", opening(func() *disk.Disk { return image(t, files) }), "Remove 1, Sync 0, SyncNames")
			d := image(t, files)
			holds(t, "looked", look(t, d), len(l), l...)
			holds(t, "opened", open(t, d), len(l), l...)
			stands(t, "opened", d, segments(l...))
		}
	}
}

// What is believed is made safe, of whatever file something is not.
func TestP5_1WhatIsNotSafe(t *testing.T) {
	base := func(l ...string) map[string][]byte { return with(segments(l...), "note", []byte("n")) }
	loosenings := map[string]func(d *disk.Disk) error{
		"bytes":          func(d *disk.Disk) error { return d.Append("note", []byte("x")) },
		"a cut":          func(d *disk.Disk) error { return d.Cut("note", 1) },
		"a name":         func(d *disk.Disk) error { return d.Create("a") },
		"a rename":       func(d *disk.Disk) error { return d.Rename("note", "note") },
		"a removed file": func(d *disk.Disk) error { d.Append("note", []byte("x")); return d.Remove("note") },
		"a file that no name finds": func(d *disk.Disk) error {
			d.Create("a")
			d.Append("a", []byte("x"))
			return d.Remove("a")
		},
	}
	for what, loosen := range loosenings {
		for _, c := range []struct {
			files map[string][]byte
			want  string
		}{
			{base(), "SyncNames"},
			{base("a"), "Sync 0, SyncNames"},
			{base(append(upTo(0), "x")...), "Sync 1, SyncNames"},
		} {
			makes(t, what, opening(func() *disk.Disk {
				d := image(t, c.files)
				if err := loosen(d); err != nil {
					t.Fatal(err)
				}
				return d
			}), c.want)
		}
	}
	d := image(t, base("a"))
	d.Append("note", []byte("x"))
	d.Sync("note")
	d.Create("b")
	d.SyncNames()
	quiet(t, "all is safe again", d, func() { open(t, d) })
}

// An act that is refused is the answer; nothing is claimed, the elder store lives on, and a later Open finds the same.
func TestP5_1ARefusedAct(t *testing.T) {
	torn := with(segments("a"), "seg-00000", append(segments("a")["seg-00000"], packed(1, "b")[:3]...))
	empty := with(segments("a"), "seg-00001", packed(1, "b")[:3])
	for _, files := range []map[string][]byte{torn, empty} {
		for _, kind := range []int{api.Ahead, api.Behind, api.Tear, api.Room} {
			for i := range 3 {
				d := image(t, segments("a"))
				elder := open(t, d)
				for name, b := range files {
					if n, err := d.Length(name); err != nil {
						d.Create(name)
						d.Append(name, b)
					} else {
						d.Append(name, b[n:])
					}
				}
				plan(d, i, kind, 0)
				was := d.Acts()
				s, err := store.Open(d)
				f, ok := err.(*disk.Fault)
				if s != nil || !ok || f.Call == "store" || d.Acts() != was+i+1 || d.Claims("store") != 1 {
					t.Fatalf("act %d: %v, %d acts, %d claims", i, err, d.Acts()-was, d.Claims("store"))
				}
				holds(t, "the elder", elder, 1, "a")
				refused(t, "the elder", elder.Live(), "", "", api.OK)
				holds(t, "a later one", open(t, d), 1, "a")
				d.Restart(api.Cut{})
				stands(t, "a later one", d, segments("a"))
			}
		}
	}
}

func TestP5_1EachOpenClaims(t *testing.T) {
	d, first := stored(t, "a")
	for i := 2; i < 9; i++ {
		second := open(t, d)
		if d.Claims("store") != i {
			t.Errorf("%d claims behind %d Opens", d.Claims("store"), i)
		}
		refuses(t, "the elder", first.Live(), "Live", api.ErrStale)
		refused(t, "the later", second.Live(), "", "", api.OK)
		first = second
	}
	look(t, d)
	corruptNow := image(t, map[string][]byte{"seg-00001": nil})
	store.Open(corruptNow)
	if d.Claims("store") != 8 || corruptNow.Claims("store") != 0 || first.Live() != nil {
		t.Errorf("%d claims behind a Look", d.Claims("store"))
	}
}
