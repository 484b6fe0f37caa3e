package script_test

import (
	"fmt"
	"math"
	"math/rand/v2"
	"slices"
	"strconv"
	"strings"
	"testing"

	"gabion/api"
	"gabion/boot"
	"gabion/call"
	"gabion/flat"
	"gabion/hot"
	"gabion/pm"
	"gabion/script"
)

// forms is a call of each kind, with its words.
func forms() map[string]call.Call {
	return map[string]call.Call{
		"open /a 11": {Kind: call.Open, Path: "/a", N: 11}, "close 3": {Kind: call.Close, Fd: 3}, "read 1 20": {Kind: call.Read, Fd: 1, N: 20}, "write 0 6869": {Kind: call.Write, Data: "hi"},
		"pread 1 2 -3": {Kind: call.Pread, Fd: 1, N: 2, At: -3}, "pwrite 1 00ff 7": {Kind: call.Pwrite, Fd: 1, Data: "\x00\xff", At: 7}, "seek 1 2 3": {Kind: call.Seek, Fd: 1, N: 2, At: 3}, "truncate a/b 9": {Kind: call.Truncate, Path: "a/b", N: 9},
		"ftruncate -1 9": {Kind: call.Ftruncate, Fd: -1, N: 9}, "mkdir /d/": {Kind: call.Mkdir, Path: "/d/"}, "rmdir .": {Kind: call.Rmdir, Path: "."}, "link /a b": {Kind: call.Link, Path: "/a", To: "b"}, "unlink x|y": {Kind: call.Unlink, Path: "x|y"},
		"rename a b": {Kind: call.Rename, Path: "a", To: "b"}, "symlink a ../b": {Kind: call.Symlink, Path: "a", To: "../b"}, "readlink a": {Kind: call.Readlink, Path: "a"}, "stat a": {Kind: call.Stat, Path: "a"}, "lstat a": {Kind: call.Lstat, Path: "a"},
		"fstat 5": {Kind: call.Fstat, Fd: 5}, "readdir /": {Kind: call.Readdir, Path: "/"}, "fsync 0": {Kind: call.Fsync}, "write 0 .": {Kind: call.Write}, "open 0 -9223372036854775808": {Kind: call.Open, Path: "0", N: math.MinInt},
		"seek 0 0 9223372036854775807": {Kind: call.Seek, At: math.MaxInt}, "mkdir \xff\x00": {Kind: call.Mkdir, Path: "\xff\x00"},
	}
}

func TestParseP30_1(t *testing.T) {
	kinds := map[call.Kind]bool{}
	for text, want := range forms() {
		l := strings.Split(text, " ")
		if c, e := script.Parse(l); c != want || e != api.OK {
			t.Errorf("%q: %v, %v", text, c, e)
		}
		if got := script.Show(want); !slices.Equal(got, l) {
			t.Errorf("%q: %q", text, got)
		}
		kinds[want.Kind] = true
		for _, m := range [][]string{l[:len(l)-1], append(slices.Clone(l), "1"), l[:1]} {
			if c, e := script.Parse(m); c != (call.Call{}) || e != api.ErrFields {
				t.Errorf("%q: %v", m, e)
			}
		}
	}
	if len(kinds) != int(call.Kinds)-1 {
		t.Error("kinds without an example")
	}
	if c, e := script.Parse([]string{"mkdir", ""}); c != (call.Call{Kind: call.Mkdir}) || e != api.OK {
		t.Error(c, e)
	}
	for _, l := range [][]string{nil, {}, {""}, {"Open", "/a", "1"}, {"kinds"}, {"opens", "/a", "1"}, {"make"}, {" open", "a", "1"}} {
		if c, e := script.Parse(l); c != (call.Call{}) || e != api.ErrCommand {
			t.Errorf("%q: %v", l, e)
		}
	}
	for _, w := range []string{"", "x", "-", "--1", "+1", "01", "-0", "-01", "00", "1.0", "0x1", "1_0", " 1", "1 ", "9223372036854775808", "-9223372036854775809", "99999999999999999999", "."} {
		for _, l := range [][]string{{"close", w}, {"read", w, "1"}, {"read", "1", w}, {"pread", "1", "1", w}, {"open", "/a", w}, {"pwrite", "1", "aa", w}} {
			if c, e := script.Parse(l); c != (call.Call{}) || e != api.ErrNumber {
				t.Errorf("%q: %v", l, e)
			}
		}
	}
	for _, w := range []string{"", "0", "abc", "AA", "aA", "0g", "..", "a.", "0x", " a", "a\n"} {
		if c, e := script.Parse([]string{"write", "1", w}); c != (call.Call{}) || e != api.ErrNumber {
			t.Errorf("%q: %v", w, e)
		}
	}
}

func TestShowP30_1(t *testing.T) {
	for _, k := range []call.Kind{0, -1, call.Kinds, 99, math.MinInt, math.MaxInt} {
		if l := script.Show(call.Call{Kind: k, Path: "/a"}); len(l) != 0 {
			t.Errorf("kind %d: %q", k, l)
		}
	}
	x := rand.New(rand.NewPCG(34, 1))
	for range 500 {
		data := make([]byte, x.IntN(5))
		for i := range data {
			data[i] = byte(x.Uint32())
		}
		c := call.Call{Kind: call.Kind(1 + x.IntN(21)), Path: fmt.Sprint("p", x.IntN(9)), To: fmt.Sprint("t", x.IntN(9)), Fd: int(x.Int64()), N: -int(x.Int64()), At: int(x.Uint64()), Data: string(data)}
		got, e := script.Parse(script.Show(c))
		if e != api.OK || got.Kind != c.Kind {
			t.Fatal(got, e)
		}
		// The fields that a kind does not have are zero.
		if !slices.Equal(script.Show(got), script.Show(c)) || got.Path != c.Path && got.Path != "" || got.Data != c.Data && got.Data != "" || got.At != c.At && got.At != 0 {
			t.Fatalf("%v, not %v", got, c)
		}
	}
}

func TestResultP30_2(t *testing.T) {
	r := call.Result{N: 7, Data: "\x00a\xff", Facts: call.Facts{N: 3, Kind: 2, Links: 4, Size: 5}, Names: []string{"a", "b c"}}
	for k := call.Kind(-1); k <= call.Kinds+1; k++ {
		want := "ok"
		switch k {
		case call.Open, call.Write, call.Pwrite, call.Seek:
			want = "ok 7"
		case call.Read, call.Pread, call.Readlink:
			want = "ok 0061ff"
		case call.Stat, call.Lstat, call.Fstat:
			want = "ok 3 2 4 5"
		case call.Readdir:
			want = "ok 2 61 622063"
		}
		if got := script.Result(k, r); got != want {
			t.Errorf("kind %d: %q", k, got)
		}
		if got := script.Result(k, call.Result{Err: api.ErrNumber}); got != "error 62" {
			t.Errorf("kind %d: %q", k, got)
		}
	}
	if script.Result(call.Read, call.Result{}) != "ok ." || script.Result(call.Readdir, call.Result{}) != "ok 0" || script.Result(call.Seek, call.Result{}) != "ok 0" || script.Result(call.Stat, call.Result{}) != "ok 0 0 0 0" {
		t.Error("empty results")
	}
}

// talk gives lines to a Desk, and looks at its answers.
func talk(t *testing.T, k *script.Desk, l ...string) {
	t.Helper()
	for i := 0; i < len(l); i += 2 {
		if got := k.Do(l[i]); got != l[i+1] {
			t.Fatalf("%q: %q, not %q", l[i], got, l[i+1])
		}
	}
}

const small = "make 2 64 0 5 1 9 512 1"

func TestExampleP30_3(t *testing.T) {
	talk(t, script.New(), small, "ok 87", "call 0 mkdir /a", "ok", "list", "ok|/ d 1 3 0|/a d 2 2 0")
	got, e := script.Run(small + "\ncall 0 mkdir /a\nlist\n")
	if got != "ok 87\nok\nok|/ d 1 3 0|/a d 2 2 0\n" || e != api.OK {
		t.Error(got, e)
	}
}

func TestErrorsP30_3(t *testing.T) {
	var none *script.Desk
	talk(t, none, "list", "error 1", "", "error 1")
	k := script.New()
	talk(t, k,
		"", "error 60", " ", "error 60", "List", "error 60", " list", "error 60", "mkdir /a", "error 60", "makes", "error 60",
		"make", "error 61", "make 2 64 0 5 1 9 512", "error 61", small+" 1", "error 61", small+" ", "error 61", "call", "error 61", "call 0", "error 61", "call x", "error 61", "begin 0", "error 61",
		"step", "error 61", "step 0 1", "error 61", "fuse", "error 61", "fuse 1 1", "error 61", "break", "error 61", "boot", "error 61", "boot . .", "error 61", "list ", "error 61", "audit 1", "error 61", "wear x", "error 61",
		"make 2 64 0 5 x 9 512 1", "error 62", "make 2 64 0 5 -1 9 512 1", "error 62", "make 2 64 0 5 9223372036854775808 9 512 1", "error 62", "make 02 64 0 5 1 9 512 1", "error 62", "make 2 64 0 5 1 9 512 ", "error 62",
		"call x mkdir /a", "error 62", "begin 00 mkdir /a", "error 62", "call  mkdir /a", "error 62", "step -0", "error 62", "fuse +1", "error 62", "break .", "error 62", "boot 2", "error 62", "boot 10x", "error 62", "boot ", "error 62", "boot 1.", "error 62",
		"call 0 mkdir /a", "error 8", "call 0 nonsense", "error 8", "begin 0 mkdir", "error 8", "step 0", "error 8", "fuse 1", "error 8", "break 1", "error 8", "boot .", "error 8", "boot 01", "error 8", "list", "error 8", "audit", "error 8", "wear", "error 8",
		"make 0 64 0 5 1 9 512 1", "error 2", "make 2 64 0 5 1 0 512 1", "error 2", "make 2 64 0 5 1 9 512 9", "error 2", "make 2 60 0 5 1 9 512 1", "error 2", "make 2 64 65 5 1 9 512 1", "error 2", "make 16 1024 0 5 1 9 512 1", "error 2",
		"make -1 64 0 5 1 9 512 1", "error 2", "make 2 64 0 5 1 9 64 1", "error 7", "list", "error 8",
		small, "ok 87",
		"call 0 nonsense", "error 60", "call 0 ", "error 60", "call 0 mkdir", "error 61", "call 0 mkdir a b", "error 61", "begin 0 close x", "error 62", "call 1 mkdir /a", "error 2", "call 1 nonsense", "error 60", "call -1 mkdir /a", "error 2",
		"begin 1 mkdir /a", "error 2", "step 1", "error 2", "step 0", "error 8", "list", "ok|/ d 1 2 0",
		"make 0 64 0 5 1 9 512 1", "error 2", "call 0 mkdir /a", "ok", "make 2 64 0 5 1 9 64 1", "error 7", "list", "ok|/ d 1 3 0|/a d 2 2 0",
		"make 2 64 0 5 9223372036854775807 9 512 1", "ok 87", "list", "ok|/ d 1 2 0",
	)
}

func TestCallsP30_3(t *testing.T) {
	talk(t, script.New(),
		"make 2 64 2 5 1 9 512 2", "ok 87",
		"call 0 open /a 11", "ok 0", "call 0 write 0 6869", "ok 2", "call 0 pread 0 9 0", "ok 6869", "call 0 read 0 9", "ok .", "call 0 seek 0 0 1", "ok 1", "call 0 fstat 0", "ok 2 1 1 2", "call 0 mkdir /d", "ok",
		"call 0 symlink /l a", "ok", "call 0 readlink /l", "ok 61", "call 0 lstat /l", "ok 4 3 1 1", "call 0 readdir /", "ok 3 61 64 6c", "call 0 mkdir  x", "error 61", "call 0 mkdir ", "error 13", "call 0 stat /none", "error 13",
		"list", "ok|/ d 1 3 0|/a f 2 1 2|/d d 3 2 0|/l l 4 1 1 -> a", "audit", "ok 1 2 1 3 1 0 1 86",
		"begin 0 write 0 78", "ok", "begin 0 write 0 78", "error 8", "call 0 mkdir /x", "error 8", "step 0", "-", "begin 1 truncate /a 0", "ok", "step 1", "-", "step 1", "-", "step 1", "-",
		"call 1 mkdir /x", "error 8", "step 0", "-", "step 0", "-", "step 0", "ok 1", "step 0", "error 8", "call 0 pwrite 0 79 5", "ok 1", "call 0 mkdir /x", "error 22", "step 1", "-", "step 1", "-", "step 1", "ok",
		"call 1 stat /a", "ok 2 1 1 0", "begin 1 stat /a", "ok", "step 1", "ok 2 1 1 0", "begin 1 fsync 5", "ok", "step 1", "error 19",
	)
}

func TestBootP30_3(t *testing.T) {
	k := script.New()
	talk(t, k,
		small, "ok 87", "call 0 mkdir /a", "ok", "call 0 open /a 1", "ok 0", "begin 0 readdir /", "ok", "boot .", "ok", "step 0", "error 8", "call 0 fstat 0", "error 19", "begin 0 mkdir /b", "ok", "step 0", "-",
		"fuse 1", "ok", "step 0", "error 6", "list", "ok|/ d 1 3 0|/a d 2 2 0", "boot 1", "ok", "list", "ok|/ d 1 3 0|/a d 2 2 0", "fuse 2", "ok", "boot 0101", "ok", "fuse 0", "ok",
		"fuse 1", "ok", "call 0 mkdir /c", "error 6", "boot .", "ok", "call 0 mkdir /c", "ok", "list", "ok|/ d 1 4 0|/a d 2 2 0|/c d 3 2 0",
	)
	// Without spares a start fails as soon as the log's line is bad: then there is no System, but there is a device.
	for i := range 133 {
		talk(t, k, fmt.Sprint("break ", i), "ok")
	}
	talk(t, k, "break -1", "ok", "break 133", "ok", "call 0 mkdir /x", "error 11", "call 0 stat /c", "ok 3 2 2 0", "boot .", "error 10", "list", "error 8", "audit", "error 8", "call 0 mkdir /x", "error 8", "begin 0 nonsense", "error 8", "step 0", "error 8", "fuse 0", "ok", "boot 1", "error 10")
	if got := k.Do("wear"); !strings.HasPrefix(got, "ok ") {
		t.Error(got)
	}
	talk(t, k, small, "ok 87", "list", "ok|/ d 1 2 0")
}

func TestWearP30_3(t *testing.T) {
	k := script.New()
	talk(t, k, small, "ok 87")
	before := strings.Fields(k.Do("wear"))
	talk(t, k, "call 0 mkdir /a", "ok")
	after := strings.Fields(k.Do("wear"))
	if len(before) != 4 || len(after) != 4 {
		t.Fatal(before, after)
	}
	a, _ := strconv.Atoi(before[3])
	b, _ := strconv.Atoi(after[3])
	if a <= 0 || b <= a {
		t.Error(before, after)
	}
}

func TestSizeP30_3(t *testing.T) {
	k := script.New()
	talk(t, k, "make 3 40 9 5 7 9 512 4", fmt.Sprint("ok ", boot.Config{Flat: flat.Config{Regions: 3, Lines: 40, Spares: 9, Psi: 5, Key: 7}, Heat: 9, Half: 512, Clients: 4}.Blocks()), "call 3 mkdir /a", "ok", "call 4 mkdir /b", "error 2")
}

func TestRunP30_3(t *testing.T) {
	for _, x := range []struct {
		s, want string
		e       api.Errno
	}{
		{"", "", api.OK}, {"\n\n\n", "", api.OK}, {"list", "error 8\n", api.OK}, {"list\n", "error 8\n", api.OK}, {"\nlist\n\n \nx", "error 8\nerror 60\nerror 60\n", api.OK}, {"list\r\n", "error 60\n", api.OK},
		{strings.Repeat("\n", api.MaxScript), "", api.OK}, {strings.Repeat("\n", api.MaxScript+1), "", api.ErrLong}, {strings.Repeat("x", api.MaxScript+1), "", api.ErrLong},
		{small + "\ncall 0 mkdir /a\n\nlist", "ok 87\nok\nok|/ d 1 3 0|/a d 2 2 0\n", api.OK},
	} {
		if got, e := script.Run(x.s); got != x.want || e != x.e {
			t.Errorf("%.40q: %.80q, %v", x.s, got, e)
		}
	}
	// The answers are counted with their line feeds.
	s := small + "\ncall 0 open /f 11\ncall 0 write 0 " + strings.Repeat("61", 1000) + "\n"
	head, _ := script.Run(s)
	line := len("ok ") + 2000 + 1
	n := (api.MaxAnswer - len(head)) / line
	left := api.MaxAnswer - len(head) - n*line
	s += strings.Repeat("call 0 pread 0 1000 0\n", n)
	if got, e := script.Run(s); len(got) != len(head)+n*line || e != api.OK {
		t.Error(len(got), e)
	}
	exact := s + fmt.Sprintf("call 0 pread 0 %d 0\n", (left-4)/2)
	if (left-4)%2 == 1 {
		// One byte is left over: "-" or an answer of an even length fills it.
		exact = s + fmt.Sprintf("call 0 pread 0 %d 0\ncall 0 stat /none\n", (left-4-9)/2)
	}
	got, e := script.Run(exact)
	if e != api.OK || api.MaxAnswer-len(got) > 1 {
		t.Error(len(got), e)
	}
	if got, e := script.Run(exact + "list\n"); got != "" || e != api.ErrFull {
		t.Error(len(got), e)
	}
}

// TestKeyP30_3: the key decides which line of the device a page's line is; the log's first one is looked for by breaking each.
func TestKeyP30_3(t *testing.T) {
	first := func(key int) string {
		hits := ""
		for i := range 133 {
			k := script.New()
			talk(t, k, fmt.Sprintf("make 2 64 0 65535 %d 9 512 1", key), "ok 87", fmt.Sprint("break ", i), "ok")
			if k.Do("boot .") != "ok" {
				hits += fmt.Sprint(i, " ")
			}
		}
		return hits
	}
	seen := map[string]int{}
	for _, key := range []int{0, 1, 12345, math.MaxInt} {
		c := flat.Config{Regions: 2, Lines: 64, Spares: 0, Psi: 65535, Key: uint64(key)}
		d, _ := pm.New(c.Size())
		hot.Make(d, c)
		p, _ := hot.Open(d, 9)
		at, _ := p.Frame(0)
		l, _ := p.Flat().Where(8 * at)
		if got := first(key); got != fmt.Sprint(l, " ") {
			t.Errorf("key %d: %s, not %d", key, got, l)
		}
		seen[first(key)]++
	}
	if len(seen) < 2 {
		t.Error("the key has no effect")
	}
}

// TestKeepP30_3: what is kept at a boot lasts.
func TestKeepP30_3(t *testing.T) {
	differ := 0
	for n := 1; n < 200; n++ {
		var got [2]string
		for i, keep := range []string{"1111111111", "."} {
			k := script.New()
			talk(t, k, small, "ok 87", fmt.Sprint("fuse ", n), "ok")
			k.Do("call 0 mkdir /a")
			talk(t, k, "boot "+keep, "ok")
			got[i] = k.Do("list")
		}
		if got[0] != got[1] {
			differ++
			if got[0] != "ok|/ d 1 3 0|/a d 2 2 0" || got[1] != "ok|/ d 1 2 0" {
				t.Fatal(n, got)
			}
		}
	}
	if differ == 0 {
		t.Error("what is kept has no effect")
	}
}
