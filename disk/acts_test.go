package disk_test

import (
	"fmt"
	"math"
	"testing"

	"docket/api"
	"docket/disk"
)

// A refusal by the table is not begun, and changes nothing.
func TestP3_2Refusals(t *testing.T) {
	for _, c := range []struct {
		act act
		why api.Errno
	}{
		{create("a"), api.ErrExists},
		{create("b"), api.ErrExists},
		{lay("c", "x"), api.ErrMissing},
		{lay("c", ""), api.ErrMissing},
		{lay("c", "more than there is room for"), api.ErrMissing},
		{cut("c", 0), api.ErrMissing},
		{cut("c", -1), api.ErrMissing},
		{cut("a", -1), api.ErrArg},
		{cut("a", 4), api.ErrArg},
		{cut("a", math.MinInt), api.ErrArg},
		{cut("a", math.MaxInt), api.ErrArg},
		{cut("b", 1), api.ErrArg},
		{syncFile("c"), api.ErrMissing},
		{rename("c", "a"), api.ErrMissing},
		{rename("c", "c"), api.ErrMissing},
		{rename("A", "B"), api.ErrName},
		{rename("c", "B"), api.ErrName},
		{rename("a", ""), api.ErrName},
		{remove("c"), api.ErrMissing},
	} {
		d := image(t, 10, "a=abc", "b=")
		does(t, d, create("x"), remove("x"), cut("a", 3))
		was := told(t, d)
		answers(t, d, c.act, c.why)
		if d.Acts() != 3 || told(t, d) != was {
			t.Errorf("%v: a refused act has changed something: %s", c.act, told(t, d))
		}
	}
}

func TestP3_2AnAppendAboveAFile(t *testing.T) {
	for _, c := range []struct {
		space, size int
		begun       int
		bytes       string
	}{
		{3, api.MaxFile + 1, 0, "x"},
		{1 << 40, api.MaxFile + 1, 0, "x"},
		{1 << 40, api.MaxFile, 0, "x"},
		{3, api.MaxFile - 1, 1, "x\x00\x00"},
		{1, api.MaxFile - 1, 1, "x"},
	} {
		d := image(t, c.space, "a=x")
		err := d.Append("a", long[:c.size])
		refused(t, fmt.Sprint(c.size, " bytes"), err, "Append", "a", api.ErrSpace)
		if d.Acts() != c.begun {
			t.Errorf("%d bytes: Acts %d", c.size, d.Acts())
		}
		if n, _ := d.Length("a"); n != len(c.bytes) {
			t.Errorf("%d bytes: %d stand", c.size, n)
			continue
		}
		stands(t, fmt.Sprint(c.size, " bytes"), d, "a="+c.bytes)
	}
}

func TestP3_2TheMostNames(t *testing.T) {
	d := fresh(t, 100)
	for i := range api.MaxFiles {
		does(t, d, create(fmt.Sprint("f", i)))
	}
	answers(t, d, create("g"), api.ErrSpace)
	answers(t, d, create("f7"), api.ErrExists)
	answers(t, d, create("F"), api.ErrName)
	if d.Acts() != api.MaxFiles {
		t.Errorf("Acts %d", d.Acts())
	}
	does(t, d, rename("f1", "g"))
	answers(t, d, create("f1"), api.ErrSpace)
	does(t, d, rename("f2", "f3"), create("f1"))
	answers(t, d, create("f2"), api.ErrSpace)
	does(t, d, remove("g"), create("f2"))
	answers(t, d, create("g"), api.ErrSpace)
	d.Restart(api.Cut{Names: 9})
	does(t, d, create("g"), lay("g", "x"))
}

func TestP3_2WhatActsDo(t *testing.T) {
	d := fresh(t, 100)
	for i, c := range []struct {
		act  act
		want string
	}{
		{create("b"), "b="},
		{create("a"), "a= b="},
		{lay("a", "12"), "a=12 b="},
		{lay("a", ""), "a=12 b="},
		{lay("b", "34567"), "a=12 b=34567"},
		{lay("a", "8"), "a=128 b=34567"},
		{cut("b", 5), "a=128 b=34567"},
		{cut("b", 2), "a=128 b=34"},
		{lay("b", "xyz"), "a=128 b=34xyz"},
		{syncFile("b"), "a=128 b=34xyz"},
		{rename("a", "a"), "a=128 b=34xyz"},
		{rename("a", "c"), "b=34xyz c=128"},
		{create("a"), "a= b=34xyz c=128"},
		{rename("b", "c"), "a= c=34xyz"},
		{syncNames(), "a= c=34xyz"},
		{lay("c", "Q"), "a= c=34xyzQ"},
		{remove("a"), "c=34xyzQ"},
		{create("a"), "a= c=34xyzQ"},
		{cut("c", 0), "a= c="},
		{cut("a", 0), "a= c="},
		{syncNames(), "a= c="},
	} {
		if d.Acts() != i {
			t.Errorf("ahead of the act %d: Acts %d", i, d.Acts())
		}
		does(t, d, c.act)
		stands(t, c.act.String(), d, c.want)
	}
}

func TestP3_2WhatIsMadeSafe(t *testing.T) {
	d := fresh(t, 100)
	kept := func(want string) {
		t.Helper()
		if got := files(d.Kept()); got != want {
			t.Errorf("%q is safe, want %q", got, want)
		}
	}
	does(t, d, create("a"), lay("a", "12"), syncFile("a"))
	kept("")
	does(t, d, create("b"), lay("b", "34"), syncNames())
	kept("a=12 b=")
	does(t, d, lay("a", "5"), cut("a", 1), lay("a", "67"))
	kept("a=12 b=")
	does(t, d, syncFile("a"))
	kept("a=167 b=")
	does(t, d, rename("a", "c"), lay("c", "8"), syncFile("c"))
	kept("a=1678 b=")
	does(t, d, remove("b"), cut("c", 2))
	kept("a=1678 b=")
	does(t, d, syncNames())
	kept("c=1678")
	does(t, d, syncFile("c"), syncFile("c"), syncNames())
	kept("c=16")
}

func TestP3_2AppendCopies(t *testing.T) {
	for _, space := range []int{1000, 7} { // with room for all, and with none for the last two bytes
		d := fresh(t, space)
		does(t, d, create("a"), create("b"))
		whole := []byte("abcdefgh")
		for range 3 {
			_ = d.Append("a", whole[:3])
		}
		if string(whole) != "abcdefgh" {
			t.Errorf("what was handed in is %q now", whole)
		}
		clear(whole)
		want := "a=" + "abcabcabc"[:min(space, 9)] + " b="
		stands(t, "behind a change of what was handed in", d, want)
		d.Restart(d.Loose())
		stands(t, "behind a Restart too", d, want)
	}
}

func TestP3_2WhatIsSafeIsNotWrittenOver(t *testing.T) {
	d := image(t, 1000, "a=ababab")
	does(t, d, cut("a", 1), lay("a", "XYZ"), cut("a", 3), lay("a", "12345678"))
	stands(t, "now", d, "a=aXY12345678")
	if files(d.Kept()) != "a=ababab" {
		t.Errorf("%s is safe", files(d.Kept()))
	}
	d.Restart(api.Cut{Bytes: []int{7}})
	stands(t, "behind a Restart", d, "a=aXY12")
	does(t, d, lay("a", "345"), syncFile("a"), cut("a", 7), lay("a", "QRST"))
	d.Restart(api.Cut{})
	stands(t, "what was synced", d, "a=aXY12345")
}

func TestP3_3Used(t *testing.T) {
	d := image(t, 100, "a=abc", "b=12345")
	for _, c := range []struct {
		act  act
		used int
	}{
		{create("c"), 8},
		{lay("c", "xy"), 10},
		{lay("c", ""), 10},
		{cut("b", 5), 10},
		{cut("b", 1), 6},
		{syncFile("b"), 6},
		{rename("c", "c"), 6},
		{rename("c", "d"), 6},
		{rename("a", "d"), 4},
		{create("a"), 4},
		{lay("a", "123456"), 10},
		{rename("a", "b"), 9},
		{syncNames(), 9},
		{remove("b"), 3},
		{remove("d"), 0},
	} {
		does(t, d, c.act)
		if d.Used() != c.used {
			t.Errorf("%v: Used %d, want %d", c.act, d.Used(), c.used)
		}
	}
	d.Restart(api.Cut{})
	if d.Used() != 3 {
		t.Errorf("behind a Restart: Used %d", d.Used())
	}
}

func TestP3_3NoRoom(t *testing.T) {
	d := image(t, 5, "a=ab", "b=")
	answers(t, d, lay("b", "12345"), api.ErrSpace)
	stands(t, "what has room", d, "a=ab b=123")
	if c := d.Loose(); d.Acts() != 1 || d.Used() != 5 || fmt.Sprint(c) != "{[0 3] 0}" {
		t.Errorf("Acts %d, Used %d, %v", d.Acts(), d.Used(), c)
	}
	answers(t, d, lay("a", "x"), api.ErrSpace)
	does(t, d, lay("a", ""), lay("b", ""))
	stands(t, "no room", d, "a=ab b=123")
	if d.Acts() != 4 {
		t.Errorf("Acts %d", d.Acts())
	}
	does(t, d, cut("a", 1), lay("b", "4"), create("c"))
	answers(t, d, lay("c", "5"), api.ErrSpace)
	does(t, d, rename("b", "a"), lay("c", "6"))
	answers(t, d, lay("c", "78"), api.ErrSpace)
	stands(t, "room for the last byte", d, "a=1234 c=6")
	does(t, d, remove("a"), lay("c", "7890"))
	answers(t, d, lay("c", "1"), api.ErrSpace)
	stands(t, "room by a Remove", d, "c=67890")
	none := fresh(t, 0)
	does(t, none, create("a"), lay("a", ""))
	answers(t, none, lay("a", "x"), api.ErrSpace)
	stands(t, "no space at all", none, "a=")
}

func TestP3_3UsedAboveTheSpace(t *testing.T) {
	d := image(t, 4, "a=1234")
	does(t, d, cut("a", 0), create("b"), lay("b", "5678"), syncFile("b"), syncNames())
	d.Restart(api.Cut{})
	if d.Used() != 8 {
		t.Errorf("Used %d", d.Used())
	}
	answers(t, d, lay("b", "9"), api.ErrSpace)
	does(t, d, lay("b", ""), cut("b", 1))
	answers(t, d, lay("b", "9"), api.ErrSpace)
	does(t, d, cut("a", 2))
	answers(t, d, lay("b", "90"), api.ErrSpace)
	stands(t, "below the space again", d, "a=12 b=59")
	if d.Acts() != 11 {
		t.Errorf("Acts %d", d.Acts())
	}
}

// The acts on one disk are not seen on another.
func TestDisksAreApart(t *testing.T) {
	m := map[string][]byte{"a": []byte("abc")}
	var two [2]*disk.Disk
	for i := range two {
		two[i], _ = disk.Image(m, 10)
	}
	two[0].Plan(api.Fault{Step: 3, Kind: api.Late})
	two[0].Claim("store")
	was := told(t, two[1])
	does(t, two[0], lay("a", "x"), create("b"), syncFile("a"))
	answers(t, two[0], syncNames(), api.ErrDown)
	two[0].Restart(api.Cut{})
	if two[1].Acts() != 0 || told(t, two[1]) != was {
		t.Errorf("%s, ahead of it %s", told(t, two[1]), was)
	}
}
