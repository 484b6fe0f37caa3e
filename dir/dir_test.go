package dir_test

import (
	"fmt"
	"maps"
	"math"
	"math/rand/v2"
	"slices"
	"strings"
	"testing"

	"gabion/api"
	"gabion/crc"
	"gabion/dir"
)

func good() []string {
	return []string{"a", "A", "...", ".a", "a.", "..a", " ", "\xff\xfe", "\x01", strings.Repeat("x", 32), "a b", "\\", "-"}
}

func bad() []string {
	return []string{"", ".", "..", "/", "a/b", "/a", "a/", "\x00", "a\x00b", strings.Repeat("x", 33), strings.Repeat("x", 100000)}
}

func TestNameP17_1(t *testing.T) {
	for _, s := range good() {
		if dir.Name(s) != api.OK {
			t.Errorf("%q", s)
		}
	}
	for _, s := range bad() {
		if dir.Name(s) != api.ErrName {
			t.Errorf("%q", s)
		}
	}
}

func TestNewP17_1(t *testing.T) {
	d := dir.New()
	if n, ok := d.Get("a"); d.Len() != 0 || !slices.Equal(d.Buckets(), []int{0, 0, 0, 0}) || len(d.List()) != 0 || n != 0 || ok {
		t.Error("a new directory")
	}
	var none *dir.Dir
	if n, ok := none.Get("a"); none.Len() != 0 || len(none.Buckets()) != 0 || len(none.List()) != 0 || n != 0 || ok || none.Copy() != nil || none.Put("/", -1) != api.ErrNil || none.Drop("a") != api.ErrNil {
		t.Error("a nil directory")
	}
}

func TestPutP17_2(t *testing.T) {
	d := dir.New()
	for _, s := range bad() {
		if d.Put(s, -1) != api.ErrName || d.Drop(s) != api.ErrNone {
			t.Errorf("%q", s)
		}
	}
	for _, n := range []int{-1, 65536, math.MinInt, math.MaxInt} {
		if d.Put("a", n) != api.ErrArg {
			t.Errorf("%d", n)
		}
	}
	if d.Len() != 0 {
		t.Error("an error changes something")
	}
	if d.Put("b", 65535) != api.OK || d.Put("a", 0) != api.OK || d.Put("b", 7) != api.OK || d.Len() != 2 {
		t.Error("Put")
	}
	if n, ok := d.Get("a"); n != 0 || !ok {
		t.Error("number 0")
	}
	if !slices.Equal(d.List(), []dir.Entry{{Name: "a", N: 0}, {Name: "b", N: 7}}) {
		t.Error(d.List())
	}
	if d.Drop("a") != api.OK || d.Drop("a") != api.ErrNone || d.Len() != 1 {
		t.Error("Drop")
	}
	if n, ok := d.Get("a"); n != 0 || ok {
		t.Error("a dropped name")
	}
}

// counts is how many names each of n buckets has.
func counts(l []dir.Entry, n int) []int {
	out := make([]int, n)
	for _, e := range l {
		out[int(crc.Sum16(e.Name))%n]++
	}
	return out
}

func TestBucketsP17_1_P17_2(t *testing.T) {
	d := dir.New()
	n := 4
	for i := range 300 {
		d.Put(fmt.Sprint("name", i), i)
		d.Put(fmt.Sprint("name", i/2), i)
		if i+1 > 4*n {
			n *= 2
		}
		if d.Len() != i+1 || !slices.Equal(d.Buckets(), counts(d.List(), n)) {
			t.Fatalf("%d names: %v", i+1, d.Buckets())
		}
	}
	if n != 128 {
		t.Fatal(n)
	}
	for i := range 300 {
		d.Drop(fmt.Sprint("name", i))
	}
	if d.Len() != 0 || !slices.Equal(d.Buckets(), make([]int, 128)) {
		t.Error("dropping names must not change the buckets")
	}
}

func TestSeventeenP17_2(t *testing.T) {
	d := dir.New()
	for i := range 16 {
		d.Put(fmt.Sprint(i), i)
	}
	for range 5 {
		d.Put("3", 99)
		d.Drop("5")
		d.Put("5", 5)
	}
	if len(d.Buckets()) != 4 {
		t.Error(d.Buckets())
	}
	d.Put("17", 1)
	if len(d.Buckets()) != 8 {
		t.Error(d.Buckets())
	}
}

func TestCopyP17_2(t *testing.T) {
	d := dir.New()
	for i := range 20 {
		d.Put(fmt.Sprint(i), i)
	}
	for i := range 18 {
		d.Drop(fmt.Sprint(i))
	}
	c := d.Copy()
	if !slices.Equal(c.List(), d.List()) || !slices.Equal(c.Buckets(), d.Buckets()) || c.Len() != 2 {
		t.Error(c.List())
	}
	c.Put("18", 5)
	c.Drop("19")
	d.Put("new", 1)
	if n, _ := d.Get("18"); n != 18 || d.Len() != 3 || c.Len() != 1 {
		t.Error("the copy is not independent")
	}
	l := d.List()
	l[0].N = 77
	d.Buckets()[0] = 77
	if slices.Equal(l, d.List()) || slices.Contains(d.Buckets(), 77) {
		t.Error("results are shared")
	}
}

func TestTextP17_3(t *testing.T) {
	if got := (dir.Entry{Name: "ab", N: 0x102}).Text(0x304); got != "\x04\x03\x02\x01ab" {
		t.Errorf("%x", got)
	}
	for _, s := range good() {
		for _, n := range []int{0, 1, 65535} {
			e := dir.Entry{Name: s, N: n}
			in, got, err := dir.Parse(e.Text(65535 - n))
			if in != 65535-n || got != e || err != api.OK {
				t.Errorf("%q: %d, %v, %v", s, in, got, err)
			}
		}
		for _, n := range []int{-1, 65536, math.MinInt, math.MaxInt} {
			if (dir.Entry{Name: s, N: n}).Text(1) != "" || (dir.Entry{Name: s, N: 1}).Text(n) != "" {
				t.Errorf("%q, %d", s, n)
			}
		}
	}
	for _, s := range bad() {
		if (dir.Entry{Name: s, N: 1}).Text(1) != "" {
			t.Errorf("%q", s)
		}
		if in, got, err := dir.Parse("\x01\x00\x02\x00" + s); in != 0 || got != (dir.Entry{}) || err != api.ErrForm {
			t.Errorf("%q: %v", s, err)
		}
	}
	for _, s := range []string{"", "a", "abc", "abcd"} {
		if in, got, err := dir.Parse(s); in != 0 || got != (dir.Entry{}) || err != api.ErrForm {
			t.Errorf("%q: %v", s, err)
		}
	}
}

func TestAgainstMap(t *testing.T) {
	x := rand.New(rand.NewPCG(17, 1))
	d, want := dir.New(), map[string]int{}
	for range 3000 {
		name, n := fmt.Sprint(x.IntN(200)), x.IntN(65536)
		if x.IntN(3) > 0 {
			d.Put(name, n)
			want[name] = n
		} else {
			d.Drop(name)
			delete(want, name)
		}
		got, ok := d.Get(name)
		if was, there := want[name]; got != was || ok != there || d.Len() != len(want) {
			t.Fatal(name)
		}
	}
	var l []dir.Entry
	for _, name := range slices.Sorted(maps.Keys(want)) {
		l = append(l, dir.Entry{Name: name, N: want[name]})
	}
	if !slices.Equal(d.List(), l) {
		t.Error(d.List())
	}
}

func TestZeroDirP17_2(t *testing.T) {
	var d dir.Dir
	if d.Len() != 0 || len(d.List()) != 0 || d.Drop("a") != api.ErrNone || d.Put("a", 1) != api.OK || d.Len() != 1 {
		t.Error("a zero Dir")
	}
	if n, ok := d.Get("a"); n != 1 || !ok || len(d.Buckets()) != 4 {
		t.Error(n, d.Buckets())
	}
}
