package gap_test

import (
	"math"
	"testing"

	"gabion/api"
	"gabion/gap"
)

var noRing = []int{math.MinInt, -1, 0, api.MaxRegion + 1, math.MaxInt}

func TestFirstP6_1(t *testing.T) {
	for _, n := range noRing {
		if gap.First(n) != (gap.State{}) || gap.First(n).Right(n) {
			t.Errorf("First(%d)", n)
		}
	}
	for _, n := range []int{1, 4, api.MaxRegion} {
		s := gap.First(n)
		if s != (gap.State{Start: 0, Gap: n, Moves: 0}) || !s.Right(n) {
			t.Errorf("First(%d) = %v", n, s)
		}
		for i := range n {
			if s.Slot(n, i) != i || s.Line(n, i) != i {
				t.Errorf("line %d of %d", i, n)
			}
		}
	}
}

func TestRightP6_1(t *testing.T) {
	for _, x := range []struct {
		s    gap.State
		n    int
		want bool
	}{
		{gap.State{0, 0, 0}, 1, true}, {gap.State{0, 1, 9}, 1, true}, {gap.State{1, 0, 0}, 1, false}, {gap.State{0, 2, 0}, 1, false},
		{gap.State{3, 4, math.MaxUint32}, 4, true}, {gap.State{4, 4, 0}, 4, false}, {gap.State{3, 5, 0}, 4, false}, {gap.State{-1, 0, 0}, 4, false},
		{gap.State{0, -1, 0}, 4, false}, {gap.State{math.MinInt, math.MaxInt, 0}, 4, false}, {gap.State{1023, 1024, 0}, 1024, true}, {gap.State{0, 0, 0}, 1025, false},
	} {
		if x.s.Right(x.n) != x.want {
			t.Errorf("%v of %d", x.s, x.n)
		}
		if !x.want {
			next, from, to := x.s.Next(x.n)
			if x.s.Slot(x.n, 0) != -1 || x.s.Line(x.n, 0) != -1 || next != (gap.State{}) || from != 0 || to != 0 {
				t.Errorf("%v of %d has lines", x.s, x.n)
			}
		}
	}
	for _, n := range noRing {
		if (gap.State{}).Right(n) || (gap.State{}).Slot(n, 0) != -1 || (gap.State{}).Line(n, 0) != -1 {
			t.Errorf("a ring of %d", n)
		}
	}
}

// TestPlacesP6_1 goes through all states of small rings.
func TestPlacesP6_1(t *testing.T) {
	for n := 1; n <= 9; n++ {
		for start := range n {
			for g := range n + 1 {
				s := gap.State{Start: start, Gap: g, Moves: 5}
				seen := map[int]bool{}
				for i := range n {
					p := (i + start) % n
					if p >= g {
						p++
					}
					if s.Slot(n, i) != p || s.Line(n, p) != i {
						t.Fatalf("%v of %d: line %d", s, n, i)
					}
					seen[p] = true
				}
				if len(seen) != n || seen[g] || s.Line(n, g) != -1 {
					t.Fatalf("%v of %d: the gap", s, n)
				}
				for _, i := range []int{-1, n, n + 1, math.MinInt, math.MaxInt} {
					if s.Slot(n, i) != -1 || i != n && s.Line(n, i) != -1 {
						t.Fatalf("%v of %d: no line %d", s, n, i)
					}
				}
			}
		}
	}
}

func TestExampleP6_2(t *testing.T) {
	s := gap.First(4)
	s, from, to := s.Next(4)
	if from != 3 || to != 4 || s.Slot(4, 3) != 4 || s != (gap.State{Start: 0, Gap: 3, Moves: 1}) {
		t.Errorf("%v, %d, %d", s, from, to)
	}
	for range 3 {
		s, _, _ = s.Next(4)
	}
	if s.Gap != 0 {
		t.Error(s)
	}
	s, from, to = s.Next(4)
	if from != 4 || to != 0 || s != (gap.State{Start: 1, Gap: 4, Moves: 5}) || s.Slot(4, 0) != 1 {
		t.Errorf("%v, %d, %d", s, from, to)
	}
	s = gap.State{Start: 3, Gap: 0, Moves: math.MaxUint32}
	if s, _, _ = s.Next(4); s != (gap.State{Start: 0, Gap: 4, Moves: 0}) {
		t.Error(s)
	}
}

func TestPackP6_3(t *testing.T) {
	s := gap.State{Start: 0x123, Gap: 0x245, Moves: 0x89abcdef}
	if s.Pack() != 0x89abcdef02450123 || gap.Unpack(s.Pack()) != s {
		t.Errorf("%x", s.Pack())
	}
	if got := (gap.State{Start: -1, Gap: 0x10002, Moves: 7}).Pack(); got != 0x70002ffff {
		t.Errorf("%x", got)
	}
	if got := gap.Unpack(math.MaxUint64); got != (gap.State{Start: 65535, Gap: 65535, Moves: math.MaxUint32}) {
		t.Error(got)
	}
	for _, n := range []int{1, 2, 700, 1024} {
		for _, s := range []gap.State{gap.First(n), {Start: n - 1, Gap: 0, Moves: 1}, {Start: n / 2, Gap: n / 3, Moves: math.MaxUint32}} {
			if gap.Unpack(s.Pack()) != s {
				t.Errorf("%v", s)
			}
		}
	}
}

// TestMovesP6_4 keeps the slots' contents while the ring moves.
func TestMovesP6_4(t *testing.T) {
	for n := 1; n <= 12; n++ {
		s := gap.First(n)
		slots := make([]int, n+1)
		for i := range n {
			slots[i] = i
		}
		slots[n] = -1
		for round := range 3 * n * (n + 1) {
			before := s
			next, from, to := s.Next(n)
			if !next.Right(n) || next.Moves != s.Moves+1 || to != s.Gap || from != next.Gap {
				t.Fatalf("%v to %v", s, next)
			}
			slots[to], slots[from] = slots[from], -1
			s = next
			changed := 0
			for i := range n {
				if slots[s.Slot(n, i)] != i {
					t.Fatalf("%d lines, move %d: line %d", n, round, i)
				}
				if s.Slot(n, i) != before.Slot(n, i) {
					changed++
				}
			}
			if changed != 1 {
				t.Fatalf("a move changes the slots of %d lines", changed)
			}
		}
		first := s
		for range n + 1 {
			s, _, _ = s.Next(n)
		}
		if s.Gap != first.Gap || s.Start != (first.Start+1)%n {
			t.Fatalf("a round of moves: %v to %v", first, s)
		}
	}
}
