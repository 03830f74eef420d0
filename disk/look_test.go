package disk_test

import (
	"fmt"
	"math"
	"strings"
	"sync"
	"testing"

	"docket/api"
)

func TestP3_5Read(t *testing.T) {
	d := image(t, 100, "a=abc")
	does(t, d, lay("a", "defg"), cut("a", 5), lay("a", "XY"))
	const want = "abcdeXY"
	numbers := []int{math.MinInt, math.MinInt + 1, -2, -1, 0, 1, 2, 3, 4, 5, 6, 7, 8, 9, 1 << 32, math.MaxInt - 7, math.MaxInt - 1, math.MaxInt}
	for _, at := range numbers {
		for _, n := range numbers {
			b, err := d.Read("a", at, n)
			if at < 0 || n < 0 || at > 7 || n > 7 || at+n > 7 {
				refused(t, fmt.Sprint("Read ", at, " ", n), err, "Read", "a", api.ErrArg)
				if b != nil {
					t.Errorf("Read %d %d: %q beside a refusal", at, n, b)
				}
			} else if err != nil || string(b) != want[at:at+n] {
				t.Errorf("Read %d %d: %q, %v", at, n, b, err)
			}
		}
	}
	if n, err := d.Length("a"); n != 7 || err != nil {
		t.Errorf("Length %d, %v", n, err)
	}
}

func TestP3_5Refusals(t *testing.T) {
	d := image(t, 100, "a=abc")
	for _, c := range []struct {
		act act
		why api.Errno
	}{
		{read("b", 0, 0), api.ErrMissing},
		{read("b", -1, 0), api.ErrMissing},
		{read("B", -1, 0), api.ErrName},
		{read("a", -1, 0), api.ErrArg},
		{length("b"), api.ErrMissing},
		{length(".b"), api.ErrName},
	} {
		answers(t, d, c.act, c.why)
	}
	if n, err := d.Length("b"); n != 0 || err == nil {
		t.Errorf("Length %d, %v", n, err)
	}
	if d.Acts() != 0 {
		t.Errorf("a look is an act")
	}
}

func TestP3_5ReadAnswersNewMemory(t *testing.T) {
	d := image(t, 100, "a=abc", "b=abc")
	does(t, d, lay("a", "def"))
	for _, name := range []string{"a", "b"} {
		b, err := d.Read(name, 1, 1)
		if err != nil || string(b) != "b" {
			t.Fatalf("Read: %q, %v", b, err)
		}
		clear(b[:cap(b)])
		does(t, d, lay(name, "!"))
	}
	b, _ := d.Read("a", 0, 3)
	does(t, d, cut("a", 0), lay("a", "XYZ"))
	if string(b) != "abc" {
		t.Errorf("an answer is %q, behind an act", b)
	}
	stands(t, "behind a change of an answer", d, "a=XYZ b=abc!")
	d.Restart(api.Cut{})
	stands(t, "behind a Restart", d, "a=abc b=abc")
}

func TestP3_5WalkRises(t *testing.T) {
	names := []string{"z", "-", "0", "a.b", "a-b", "ab", "a", strings.Repeat("a", 32), "9.9", "seg-00010", "seg-0000f"}
	d := fresh(t, 1000)
	for i, name := range names {
		does(t, d, create(name), lay(name, strings.Repeat("x", i)))
	}
	var got []string
	for name, size := range d.Walk() {
		if names[size] != name {
			t.Errorf("%s: %d bytes", name, size)
		}
		if len(got) > 0 && name <= got[len(got)-1] {
			t.Errorf("%s stands behind %s", name, got[len(got)-1])
		}
		got = append(got, name)
	}
	if len(got) != len(names) {
		t.Errorf("%d names", len(got))
	}
	for range fresh(t, 5).Walk() {
		t.Errorf("a name on a fresh disk")
	}
}

func TestP3_5WalkIsLeft(t *testing.T) {
	d := image(t, 10, "a=", "b=", "c=")
	for most := range 4 {
		n := 0
		for range d.Walk() {
			if n == most {
				break
			}
			n++
		}
		if n != most {
			t.Errorf("left behind %d, want %d", n, most)
		}
	}
}

// What is done while a Walk is gone through is not seen by it, but by the next going through.
func TestP3_5WalkSeesItsBeginning(t *testing.T) {
	d := image(t, 100, "b=1", "c=22")
	walk := d.Walk()
	does(t, d, create("a"), lay("c", "2"))
	spell := func(each func()) string {
		var l []string
		for name, size := range walk {
			l = append(l, fmt.Sprint(name, size))
			each()
		}
		return strings.Join(l, " ")
	}
	if got := spell(func() {}); got != "a0 b1 c3" {
		t.Errorf("gone through: %s", got)
	}
	done := false
	got := spell(func() {
		if !done {
			done = true
			does(t, d, remove("b"), cut("c", 0), create("d"), rename("c", "e"))
		}
	})
	if got != "a0 b1 c3" {
		t.Errorf("with acts meanwhile: %s", got)
	}
	if got := spell(func() { d.Restart(api.Cut{}) }); got != "a0 d0 e0" {
		t.Errorf("with Restarts meanwhile: %s", got)
	}
	got = spell(func() {
		d.Plan(api.Fault{Step: d.Acts(), Kind: api.Lose})
		_ = d.SyncNames()
	})
	if got != "b1 c2" {
		t.Errorf("with a loss of power meanwhile: %s", got)
	}
	if got := spell(func() {}); got != "" {
		t.Errorf("without power: %s", got)
	}
	d.Restart(api.Cut{})
	if got := spell(func() {}); got != "b1 c2" {
		t.Errorf("with power again: %s", got)
	}
}

func TestP3_10KeptIsSafe(t *testing.T) {
	d := image(t, 100, "a=abc", "b=")
	does(t, d, lay("a", "def"), create("c"), lay("c", "x"), syncFile("c"), rename("b", "d"), lay("d", "y"))
	k := d.Kept()
	if len(k) != 2 || files(k) != "a=abc b=" {
		t.Errorf("Kept: %s", files(k))
	}
	clear(k["a"][:cap(k["a"])])
	clear(k["b"][:cap(k["b"])])
	k["z"] = nil
	delete(k, "b")
	if got := files(d.Kept()); got != "a=abc b=" {
		t.Errorf("Kept, behind a change of an answer: %s", got)
	}
	stands(t, "behind a change of an answer", d, "a=abcdef c=x d=y")
	d.Restart(api.Cut{})
	stands(t, "behind a Restart that keeps nothing loose", d, "a=abc b=")
	if k := fresh(t, 0).Kept(); len(k) != 0 {
		t.Errorf("Kept of a fresh disk: %v", k)
	}
}

// No two lists of one answer share memory, and none is what a later act writes to.
func TestP3_10KeptIsNewMemory(t *testing.T) {
	d := image(t, 100, "a=abc", "b=abc")
	does(t, d, lay("a", "d"), syncFile("a"))
	k := d.Kept()
	does(t, d, lay("a", "e"), syncFile("a"))
	for name := range k {
		_ = append(k[name], "?????"...)
	}
	if files(k) != "a=abcd b=abc" || files(d.Kept()) != "a=abcde b=abc" {
		t.Errorf("%s, and %s", files(k), files(d.Kept()))
	}
	stands(t, "behind a change of an answer", d, "a=abcde b=abc")
}

// Several may look at once, while nothing is done: courts that are asked beside one another do so.
func TestLooksBesideOneAnother(t *testing.T) {
	d := image(t, 100, "a=abc", "b=12345")
	does(t, d, create("c"), lay("a", "de"), cut("b", 2))
	d.Claim("store")
	want := told(t, d)
	var all sync.WaitGroup
	for range 8 {
		all.Go(func() {
			for range 50 {
				if got := told(t, d); got != want || d.Acts() != 3 {
					t.Errorf("%s, want %s", got, want)
				}
			}
		})
	}
	all.Wait()
}
