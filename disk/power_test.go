package disk_test

import (
	"fmt"
	"math"
	"slices"
	"strings"
	"testing"

	"docket/api"
	"docket/disk"
)

// dark makes a disk whose power went at its last act.
func dark(t *testing.T) *disk.Disk {
	t.Helper()
	d := image(t, 100, "a=abc", "b=")
	does(t, d, lay("a", "de"), create("c"), lay("c", "x"))
	d.Plan(api.Fault{Step: 3, Kind: api.Late})
	answers(t, d, rename("c", "d"), api.ErrDown)
	return d
}

func TestP3_6WithoutPowerAllIsRefused(t *testing.T) {
	for _, name := range []string{"a", "b", "c", "d", "A", "", "missing"} {
		d := dark(t)
		for _, a := range []act{create(name), lay(name, "x"), lay(name, ""), cut(name, 0), cut(name, -1), syncFile(name), rename(name, "a"), rename("a", name), remove(name), syncNames(), read(name, 0, 0), read(name, -1, 0), length(name)} {
			answers(t, d, a, api.ErrDown)
		}
		if b, err := d.Read("a", 0, 1); b != nil || err == nil {
			t.Errorf("Read: %q", b)
		}
		if n, err := d.Length("a"); n != 0 || err == nil {
			t.Errorf("Length: %d", n)
		}
		if d.Acts() != 4 || d.Power() {
			t.Errorf("Acts %d, power %v", d.Acts(), d.Power())
		}
		d.Restart(d.Loose())
		stands(t, "with power again", d, "a=abcde b= d=x")
	}
}

func TestP3_6WithoutPowerTheOthersGoOn(t *testing.T) {
	d := dark(t)
	if d.Power() || d.Used() != 6 || files(d.Kept()) != "a=abc b=" || fmt.Sprint(d.Loose()) != "{[2 0 1] 2}" || d.Epoch() != 0 {
		t.Errorf("without power: %v %d %s %v %d", d.Power(), d.Used(), files(d.Kept()), d.Loose(), d.Epoch())
	}
	for range d.Walk() {
		t.Errorf("Walk goes on without power")
	}
	if d.Claim("store") != 1 || d.Claims("store") != 1 {
		t.Errorf("a claim without power")
	}
	d.Restart(api.Cut{Names: 1})
	if !d.Power() || d.Epoch() != 1 || d.Used() != 3 || d.Acts() != 4 {
		t.Errorf("with power again: %v %d %d %d", d.Power(), d.Epoch(), d.Used(), d.Acts())
	}
	stands(t, "with power again", d, "a=abc b= c=")
	does(t, d, lay("a", "x"))
}

func TestP3_7EpochAndClaims(t *testing.T) {
	d, other := fresh(t, 10), fresh(t, 10)
	want := map[string]int{}
	words := []string{"store", "tiles", "", "Store", "ä\xff"}
	for i := range 60 {
		word := words[i*i%7%len(words)]
		want[word]++
		if n := d.Claim(word); n != want[word] {
			t.Errorf("Claim %q: %d, want %d", word, n, want[word])
		}
		if i%4 == 0 {
			d.Restart(api.Cut{Names: i})
		}
		if d.Epoch() != i/4+1 {
			t.Errorf("Epoch %d behind %d Restarts", d.Epoch(), i/4+1)
		}
		for _, w := range words {
			if d.Claims(w) != want[w] || d.Claims(w) != want[w] {
				t.Errorf("Claims %q: %d, want %d", w, d.Claims(w), want[w])
			}
		}
	}
	if d.Acts() != 0 || other.Claims("store") != 0 || other.Epoch() != 0 {
		t.Errorf("Acts %d; another disk: %d, %d", d.Acts(), other.Claims("store"), other.Epoch())
	}
}

func TestP3_8Loose(t *testing.T) {
	d := image(t, 100, "b=abc", "a=")
	for _, c := range []struct {
		act   act
		names int
		bytes []int
	}{
		{lay("b", ""), 0, []int{0, 0}},
		{lay("b", "xyz"), 0, []int{0, 3}},
		{cut("b", 6), 0, []int{0, 4}},
		{cut("b", 0), 0, []int{0, 5}},
		{lay("b", "12"), 0, []int{0, 7}},
		{create("d"), 1, []int{0, 7, 0}},
		{create("c"), 2, []int{0, 7, 0, 0}},
		{lay("c", "1"), 2, []int{0, 7, 0, 1}},
		{lay("d", "23"), 2, []int{0, 7, 2, 1}},
		{rename("d", "d"), 3, []int{0, 7, 2, 1}},
		{rename("d", "c"), 4, []int{0, 7, 2, 1}},
		{remove("a"), 5, []int{0, 7, 2, 1}},
		{create("a"), 6, []int{0, 7, 2, 1, 0}},
		{lay("a", "4"), 6, []int{0, 7, 2, 1, 1}},
		{remove("a"), 7, []int{0, 7, 2, 1, 1}},
		{syncFile("b"), 7, []int{0, 0, 2, 1, 1}},
		{syncFile("c"), 7, []int{0, 0, 0, 1, 1}},
		{syncNames(), 0, []int{0, 0}},
		{rename("b", "e"), 1, []int{0, 0}},
		{lay("e", "56"), 1, []int{2, 0}},
		{remove("e"), 2, []int{2, 0}},
		{syncNames(), 0, []int{0}},
		{remove("c"), 1, []int{0}},
		{syncNames(), 0, nil},
	} {
		does(t, d, c.act)
		if l := d.Loose(); l.Names != c.names || !slices.Equal(l.Bytes, c.bytes) {
			t.Errorf("%v: %v, want %d, %v", c.act, l, c.names, c.bytes)
		}
	}
}

func TestP3_8LooseIsNewMemory(t *testing.T) {
	d := image(t, 100, "a=abc")
	does(t, d, lay("a", "xyz"))
	c := d.Loose()
	clear(c.Bytes[:cap(c.Bytes)])
	if got := d.Loose(); got.Bytes[0] != 3 {
		t.Errorf("Loose, behind a change of an answer: %v", got)
	}
}

// The changes of names and each file's units keep a beginning of their own.
func TestP3_9EachBeginning(t *testing.T) {
	bytesOfA := []string{"abc", "abcd", "abcde", "a", "aX", "aX", "aXY"}
	namesFind := []string{"a=%s b=1", "a=%s b=1 c=", "b=1 c=", "a= b=1 c=", "b= c=", "b="}
	for names := -1; names < 8; names++ {
		for n := -2; n < 10; n++ {
			d := image(t, 100, "a=abc", "b=1")
			does(t, d, lay("a", "de"), create("c"), cut("a", 1), lay("a", "X"), cut("a", 2), lay("a", "Y"), remove("a"), create("a"), rename("a", "b"), lay("b", "new"), remove("c"))
			list := []int{n}
			d.Restart(api.Cut{Names: names, Bytes: list})
			bytes := bytesOfA[max(0, min(n, len(bytesOfA)-1))]
			want := strings.Replace(namesFind[max(0, min(names, len(namesFind)-1))], "%s", bytes, 1)
			stands(t, fmt.Sprint(names, " names, ", n, " units"), d, want)
			if c := d.Loose(); files(d.Kept()) != want || c.Names != 0 || slices.Max(c.Bytes) != 0 || list[0] != n {
				t.Errorf("%d names, %d units: %s is safe, %v is loose", names, n, files(d.Kept()), c)
			}
		}
	}
}

// Of two files each keeps a beginning of its own: the later one may be whole and the earlier one empty.
func TestP3_9EachFileItsOwn(t *testing.T) {
	extremes := []int{math.MinInt, -1, 0, 1, 2, 3, 4, math.MaxInt}
	for _, a := range extremes {
		for _, b := range extremes {
			for _, list := range [][]int{{a, b}, {a, b, 9, -9}, {a}, nil} {
				d := fresh(t, 100)
				does(t, d, create("a"), create("b"), lay("a", "123"), lay("b", "456"))
				d.Restart(api.Cut{Names: math.MaxInt, Bytes: list})
				var n [2]int
				for i := range min(2, len(list)) {
					n[i] = max(0, min(list[i], 3))
				}
				stands(t, fmt.Sprint(list), d, "a="+"123"[:n[0]]+" b="+"456"[:n[1]])
			}
		}
	}
}

func TestP3_9ARestartWithPower(t *testing.T) {
	d := image(t, 100, "a=abc")
	does(t, d, lay("a", "d"), create("b"))
	d.Restart(d.Loose())
	if told(t, d) != "a=abcd b=; a=abcd b=; 4 true 1 {[0 0] 0} 0 0" || d.Acts() != 2 {
		t.Errorf("nothing is lost: %s", told(t, d))
	}
	d.Restart(api.Cut{})
	d.Restart(api.Cut{Names: math.MinInt, Bytes: []int{math.MinInt}})
	if told(t, d) != "a=abcd b=; a=abcd b=; 4 true 3 {[0 0] 0} 0 0" {
		t.Errorf("all was safe: %s", told(t, d))
	}
	d = fresh(t, 0)
	d.Restart(api.Cut{Names: 5, Bytes: []int{5, 5}})
	if told(t, d) != "; ; 0 true 1 {[] 0} 0 0" {
		t.Errorf("a disk without files: %s", told(t, d))
	}
}

// A file that a Restart did not keep is gone: a later one does not bring it back, nor what it forgot of another.
func TestP3_9WhatIsForgottenStaysSo(t *testing.T) {
	d := image(t, 100, "a=abc")
	does(t, d, lay("a", "def"), create("b"), lay("b", "x"), syncFile("b"))
	d.Restart(api.Cut{Bytes: []int{1, 9}})
	all := api.Cut{Names: 9, Bytes: []int{9, 9, 9}}
	d.Restart(all)
	stands(t, "behind two Restarts", d, "a=abcd")
	does(t, d, create("b"), lay("a", "Z"))
	d.Restart(all)
	stands(t, "a name that comes again", d, "a=abcdZ b=")
	if c := d.Loose(); fmt.Sprint(c) != "{[0 0] 0}" {
		t.Errorf("%v", c)
	}
}

// What was synced, a file and its names, stands behind a loss of power at any act and with any Cut.
func TestP3_12WhatWasSyncedStands(t *testing.T) {
	later := []act{lay("a", "12"), lay("b", "3"), create("c"), lay("c", "4"), syncFile("c"), lay("a", "5"), syncFile("b"), rename("c", "e"), lay("e", "6")}
	for at := range len(later) + 1 {
		for _, kind := range []int{api.Lose, api.Late} {
			for n := range 6 {
				d := fresh(t, 100)
				does(t, d, create("a"), create("b"), lay("a", "abc"), syncFile("a"), lay("b", "def"), syncFile("b"), syncNames())
				d.Plan(api.Fault{Step: 7 + at, Kind: kind, Part: n})
				for _, a := range later {
					_ = a.do(d)
				}
				d.Restart(api.Cut{Names: n, Bytes: []int{n, 5 - n, n}})
				for name, want := range map[string]string{"a": "abc", "b": "def"} {
					if b, err := d.Read(name, 0, 3); err != nil || string(b) != want {
						t.Errorf("power lost at %d: %s is %q: %v", at, name, b, err)
					}
				}
			}
		}
	}
}

func TestP3_12AFileWithoutASafeName(t *testing.T) {
	d := image(t, 100, "a=abc")
	does(t, d, create("b"), lay("b", "xyz"), syncFile("b"), rename("a", "c"), lay("c", "d"), syncFile("c"))
	d.Restart(api.Cut{Bytes: []int{9, 9}})
	stands(t, "the names are not safe", d, "a=abcd")
	does(t, d, remove("a"), syncNames())
	d.Restart(api.Cut{Names: 9, Bytes: []int{9, 9}})
	stands(t, "the Remove is safe", d, "")
}
