package path_test

import (
	"math/rand/v2"
	"slices"
	"strings"
	"testing"

	"gabion/api"
	"gabion/path"
)

func way(abs, dir bool, parts ...string) path.Way {
	return path.Way{Abs: abs, Parts: parts, Dir: dir}
}

func same(a, b path.Way) bool {
	return a.Abs == b.Abs && a.Dir == b.Dir && slices.Equal(a.Parts, b.Parts)
}

func TestParseP18_1(t *testing.T) {
	for s, want := range map[string]path.Way{
		"/a//./b/": way(true, true, "a", "b"), "a": way(false, false, "a"), "/": way(true, true), ".": way(false, true), "..": way(false, false, ".."), "/..": way(true, false, ".."),
		"./": way(false, true), "a/.": way(false, true, "a"), "a/..": way(false, false, "a", ".."), "a./": way(false, true, "a."), "a/b.": way(false, false, "a", "b."), "//": way(true, true),
		"/.": way(true, true), "./.": way(false, true), "../": way(false, true, ".."), "a/./b": way(false, false, "a", "b"), "...": way(false, false, "..."), "a..": way(false, false, "a.."),
		".a": way(false, false, ".a"), " /\\": way(false, false, " ", "\\"), strings.Repeat("x", 32): way(false, false, strings.Repeat("x", 32)),
	} {
		if got, e := path.Parse(s); !same(got, want) || e != api.OK {
			t.Errorf("%q: %v, %v", s, got, e)
		}
	}
	long := strings.Repeat("/", 256)
	if got, e := path.Parse(long); !same(got, way(true, true)) || e != api.OK {
		t.Error(e)
	}
	for _, x := range []struct {
		s string
		e api.Errno
	}{
		{"", api.ErrNone}, {long + "/", api.ErrLong}, {strings.Repeat("x", 257), api.ErrLong}, {strings.Repeat("\x00", 300), api.ErrLong}, {strings.Repeat("x", 33), api.ErrName},
		{"/a/" + strings.Repeat("x", 33) + "/b", api.ErrName}, {"a\x00", api.ErrName}, {"/b/\x00/a", api.ErrName},
	} {
		if got, e := path.Parse(x.s); e != x.e || !same(got, path.Way{}) {
			t.Errorf("%q: %v", x.s, e)
		}
	}
}

func TestTextP18_2(t *testing.T) {
	for _, x := range []struct {
		w    path.Way
		want string
	}{
		{way(true, true, "a", "b"), "/a/b/"}, {way(true, false, "a", "b"), "/a/b"}, {way(false, true, "a"), "a/"}, {way(false, false, "..", "a"), "../a"},
		{way(true, true), "/"}, {way(true, false), "/"}, {way(false, false), "."}, {way(false, true), "."}, {path.Way{}, "."},
	} {
		if got := x.w.Text(); got != x.want {
			t.Errorf("%v: %q", x.w, got)
		}
	}
}

func TestParseOfTextP18_2(t *testing.T) {
	x := rand.New(rand.NewPCG(18, 1))
	for range 3000 {
		b := make([]byte, 1+x.IntN(12))
		for i := range b {
			b[i] = "/.ab"[x.IntN(4)]
		}
		w, e := path.Parse(string(b))
		if e != api.OK {
			t.Fatalf("%q: %v", b, e)
		}
		got, e := path.Parse(w.Text())
		w.Dir = w.Dir || len(w.Parts) == 0
		if !same(got, w) || e != api.OK {
			t.Fatalf("%q: %v, %v", b, got, e)
		}
	}
}

func TestJoinP18_3(t *testing.T) {
	a, b := way(true, true, "a", "b"), way(false, false, "..", "c")
	if got := path.Join(a, b); !same(got, way(true, false, "a", "b", "..", "c")) {
		t.Error(got)
	}
	if got := path.Join(b, way(false, true)); !same(got, way(false, true, "..", "c")) {
		t.Error(got)
	}
	got := path.Join(b, a)
	if !same(got, a) {
		t.Error(got)
	}
	got.Parts[0] = "x"
	got = path.Join(path.Way{}, b)
	if !same(got, b) {
		t.Error(got)
	}
	got.Parts[0] = "x"
	if a.Parts[0] != "a" || b.Parts[0] != ".." {
		t.Error("the result is shared")
	}
	room := path.Way{Parts: make([]string, 1, 9)}
	path.Join(room, b)
	if room.Parts[:2][1] != "" {
		t.Error("the room behind a list is written")
	}
}

func TestLastP18_3(t *testing.T) {
	w := way(true, false, "a", "..", "b")
	head, last, ok := w.Last()
	if !same(head, way(true, true, "a", "..")) || last != "b" || !ok {
		t.Error(head, last, ok)
	}
	head.Parts[0] = "x"
	if w.Parts[0] != "a" {
		t.Error("the result is shared")
	}
	if head, last, ok := way(false, false, "..").Last(); !same(head, way(false, true)) || last != ".." || !ok {
		t.Error(head, last, ok)
	}
	for _, w := range []path.Way{{}, way(true, true), way(true, false)} {
		if head, last, ok := w.Last(); !same(head, path.Way{}) || last != "" || ok {
			t.Error(head, last, ok)
		}
	}
}
