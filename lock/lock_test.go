package lock_test

import (
	"math"
	"math/rand/v2"
	"slices"
	"testing"

	"gabion/api"
	"gabion/lock"
)

func locks(t *testing.T, clients int) *lock.Locks {
	t.Helper()
	l, e := lock.New(clients)
	if e != api.OK {
		t.Fatal(e)
	}
	return l
}

func step(t *testing.T, l *lock.Locks, client int, want bool) {
	t.Helper()
	if all, e := l.Step(client); all != want || e != api.OK {
		t.Fatalf("Step(%d): %v, %v", client, all, e)
	}
}

func has(t *testing.T, l *lock.Locks, client, waits int, want ...int) {
	t.Helper()
	if got := l.Has(client); !slices.Equal(got, want) || l.Waits(client) != waits {
		t.Errorf("client %d has %v, not %v, and waits for %d, not %d", client, got, want, l.Waits(client), waits)
	}
}

func is(t *testing.T, what string, got, want api.Errno) {
	t.Helper()
	if got != want {
		t.Errorf("%s: %v, not %v", what, got, want)
	}
}

func TestNewP24_1(t *testing.T) {
	for _, n := range []int{0, -1, 9, math.MinInt, math.MaxInt} {
		if l, e := lock.New(n); l != nil || e != api.ErrArg {
			t.Errorf("New(%d): %v", n, e)
		}
	}
	check := func(l *lock.Locks, client int, want api.Errno) {
		t.Helper()
		is(t, "Ask", l.Ask(client, 2, 1), want)
		all, e := l.Step(client)
		is(t, "Step", e, want)
		is(t, "Drop", l.Drop(client), want)
		if all || len(l.Has(client)) != 0 || l.Waits(client) != -1 {
			t.Errorf("client %d", client)
		}
	}
	check(nil, 0, api.ErrNil)
	check(nil, -1, api.ErrNil)
	for _, n := range []int{1, 8} {
		l := locks(t, n)
		has(t, l, n-1, -1)
		for _, client := range []int{-1, n, math.MinInt, math.MaxInt} {
			check(l, client, api.ErrArg)
		}
	}
}

func TestAskP24_2(t *testing.T) {
	l := locks(t, 2)
	step(t, l, 0, true)
	is(t, "nothing", l.Ask(0), api.OK)
	step(t, l, 0, true)
	given := []int{7, -3, 7, 0, -3}
	is(t, "some", l.Ask(0, given...), api.OK)
	if !slices.Equal(given, []int{7, -3, 7, 0, -3}) {
		t.Error("the argument is changed")
	}
	is(t, "more", l.Ask(0, 9), api.ErrState)
	is(t, "nothing more", l.Ask(0), api.ErrState)
	has(t, l, 0, -1)
	step(t, l, 0, false)
	has(t, l, 0, -1, -3)
	is(t, "more", l.Ask(0, 9), api.ErrState)
	step(t, l, 0, false)
	step(t, l, 0, true)
	has(t, l, 0, -1, -3, 0, 7)
	step(t, l, 0, true)
	for _, x := range [][]int{{7}, {6}, {8, 7}, {100, -9}, {math.MinInt}} {
		is(t, "not greater", l.Ask(0, x...), api.ErrState)
	}
	is(t, "nothing", l.Ask(0), api.OK)
	is(t, "greater", l.Ask(0, 9, 8), api.OK)
	is(t, "another client", l.Ask(1, math.MinInt, math.MaxInt), api.OK)
	step(t, l, 0, false)
	step(t, l, 0, true)
	has(t, l, 0, -1, -3, 0, 7, 8, 9)
	is(t, "Drop", l.Drop(0), api.OK)
	has(t, l, 0, -1)
	step(t, l, 0, true)
	is(t, "anything", l.Ask(0, -100), api.OK)
}

func TestWaitsP24_2_P24_3(t *testing.T) {
	l := locks(t, 3)
	l.Ask(0, 1, 2)
	l.Ask(1, 2, 1)
	step(t, l, 1, false)
	has(t, l, 1, -1, 1)
	has(t, l, 0, 1)
	step(t, l, 0, false)
	has(t, l, 0, 1)
	step(t, l, 1, true)
	step(t, l, 0, false)
	has(t, l, 1, -1, 1, 2)
	l.Ask(2, 2)
	step(t, l, 2, false)
	has(t, l, 2, 1)
	is(t, "Drop", l.Drop(1), api.OK)
	has(t, l, 0, -1)
	has(t, l, 1, -1)
	has(t, l, 2, -1)
	step(t, l, 2, true)
	step(t, l, 0, false)
	step(t, l, 0, false)
	has(t, l, 0, 2, 1)
	is(t, "Drop of a request", l.Drop(0), api.OK)
	has(t, l, 0, -1)
	step(t, l, 0, true)
	has(t, l, 2, -1, 2)
	got := l.Has(2)
	got[0] = 77
	has(t, l, 2, -1, 2)
}

// TestNoCyclesP24_4 steps clients at random: all get what they asked for.
func TestNoCyclesP24_4(t *testing.T) {
	x := rand.New(rand.NewPCG(25, 1))
	for range 300 {
		n := 2 + x.IntN(7)
		l := locks(t, n)
		left := n
		done := make([]bool, n)
		for c := range n {
			var want []int
			for range 1 + x.IntN(5) {
				want = append(want, x.IntN(6))
			}
			l.Ask(c, want...)
		}
		for round := 0; left > 0; round++ {
			if round > 10000 {
				t.Fatal("somebody waits forever")
			}
			c := x.IntN(n)
			for at, k := c, 0; at >= 0; at, k = l.Waits(at), k+1 {
				if k > n || k > 0 && at == c {
					t.Fatal("a cycle")
				}
			}
			before := l.Has(c)
			all, e := l.Step(c)
			if e != api.OK || len(l.Has(c)) > len(before)+1 {
				t.Fatal(e)
			}
			if all && !done[c] && x.IntN(3) == 0 {
				done[c] = true
				left--
				l.Drop(c)
			}
			seen := map[int]bool{}
			for c := range n {
				for _, k := range l.Has(c) {
					if seen[k] {
						t.Fatalf("lock %d is held twice", k)
					}
					seen[k] = true
				}
			}
		}
	}
}
