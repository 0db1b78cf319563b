package tests

import (
	"math"
	"strings"
	"testing"

	"loop.example/g00170/impl"
)

func TestLateOn(t *testing.T) {
	l := impl.Lane{Epoch: 1, Waits: []impl.Wait{{Id: 7, Since: 30}, {Id: 8, Since: 90}}}
	wantLate(t, l, 40, 9, true, true)
	wantLate(t, l, 40, 10, false, true)
	wantLate(t, l, 40, 11, false, true)
	wantLate(t, l, 31, 0, true, true)
	wantLate(t, l, 30, 0, false, true)
	// A now below the Since is no fault here: it waits for less than nothing.
	wantLate(t, l, 29, 0, false, true)
	wantLate(t, l, 0, 0, false, true)
	wantLate(t, l, 0, impl.MaxNow, false, true)
	wantLate(t, l, impl.MaxNow, impl.MaxNow, false, true)
	wantLate(t, l, impl.MaxNow, impl.MaxNow-30, false, true)
	wantLate(t, l, impl.MaxNow, impl.MaxNow-31, true, true)
	first := impl.Lane{Epoch: 1, Waits: []impl.Wait{{}}}
	wantLate(t, first, impl.MaxNow, impl.MaxNow, false, true)
	wantLate(t, first, impl.MaxNow, impl.MaxNow-1, true, true)
	for _, most := range []int{0, 1, impl.MaxNow} {
		wantLate(t, impl.Lane{Epoch: 1}, impl.MaxNow, most, false, true)
		wantLate(t, impl.Lane{Epoch: 1}, 0, most, false, true)
	}
}

func TestLateOnIsNot(t *testing.T) {
	l := impl.Lane{Epoch: 1, Waits: []impl.Wait{{Id: 7, Since: 3}}}
	for _, n := range []int{math.MinInt, -1, impl.MaxNow + 1, math.MaxInt} {
		wantLate(t, l, n, 0, false, false)
		wantLate(t, l, impl.MaxNow, n, false, false)
		wantLate(t, l, n, n, false, false)
		wantLate(t, impl.Lane{Epoch: 1}, n, 0, false, false)
		wantLate(t, impl.Lane{Epoch: 1}, 0, n, false, false)
	}
}

// lanesOf are lanes with these Faults.
func lanesOf(faults ...int) []impl.Lane {
	var out []impl.Lane
	for i, f := range faults {
		out = append(out, impl.Lane{Epoch: 1 + i, Faults: f})
	}
	return out
}

// keyFor is a key with which going round many lanes begins at that one.
func keyFor(at, many int) string {
	for i := 0; ; i++ {
		k := "k" + strings.Repeat("x", i%20) + twoDigits(i%100)
		if int(slowHash(k))%many == at {
			return k
		}
	}
}

func TestBestLane(t *testing.T) {
	for at := range 4 {
		k := keyFor(at, 4)
		wantBest(t, lanesOf(0, 0, 0, 0), k, at, true)
		wantBest(t, lanesOf(2, 2, 2, 2), k, at, true)
		wantBest(t, lanesOf(3, 3, 3, 3), k, at, true)
		wantBest(t, lanesOf(3, 9, mostFaults, 4), k, at, true)
		for only := range 4 {
			l := lanesOf(3, 3, 3, 3)
			l[only].Faults = 2
			wantBest(t, l, k, only, true)
			l = lanesOf(2, 2, 2, 2)
			l[only].Faults = 3
			want := at
			if at == only {
				want = (at + 1) % 4
			}
			wantBest(t, l, k, want, true)
		}
	}
	// Past the last one, and not the one with the fewest Faults.
	wantBest(t, lanesOf(3, 2, 0, 3), keyFor(3, 4), 1, true)
	wantBest(t, lanesOf(1, 3, 2, 0), keyFor(1, 4), 2, true)
	wantBest(t, lanesOf(0, 3, 2, 0), keyFor(2, 4), 2, true)
}

func TestBestLaneOfOneAndOfMany(t *testing.T) {
	for _, faults := range []int{0, 2, 3, mostFaults} {
		wantBest(t, lanesOf(faults), "k", 0, true)
		wantBest(t, lanesOf(faults), key(impl.MaxKey), 0, true)
	}
	for at := range mostLanes {
		k := keyFor(at, mostLanes)
		sound := make([]int, mostLanes)
		wantBest(t, lanesOf(sound...), k, at, true)
		sound[at] = 3
		wantBest(t, lanesOf(sound...), k, (at+1)%mostLanes, true)
		for i := range sound {
			sound[i] = 3
		}
		wantBest(t, lanesOf(sound...), k, at, true)
		sound[(at+mostLanes-1)%mostLanes] = 0
		wantBest(t, lanesOf(sound...), k, (at+mostLanes-1)%mostLanes, true)
	}
	// What waits on a lane plays no part.
	full := fullLane()
	wantBest(t, []impl.Lane{full, {Epoch: 1}}, keyFor(0, 2), 0, true)
	wantBest(t, []impl.Lane{{Epoch: 1}, full}, keyFor(1, 2), 1, true)
}

// The modulo is that of an unsigned number.
func TestBestLaneAtGreatHashes(t *testing.T) {
	lanes := lanesOf(make([]int, 7)...)
	great := 0
	for i := range 100 {
		k := "key" + twoDigits(i)
		h := slowHash(k)
		if h >= 1<<31 {
			great++
		}
		wantBest(t, lanes, k, int(uint64(h)%7), true)
	}
	if great < 10 || great > 90 {
		t.Error(great)
	}
}

func TestBestLaneIsNot(t *testing.T) {
	wantBest(t, nil, "k", 0, false)
	wantBest(t, []impl.Lane{}, "k", 0, false)
	wantBest(t, lanesOf(make([]int, mostLanes+1)...), "k", 0, false)
	wantBest(t, lanesOf(make([]int, 50)...), "k", 0, false)
	k := keyFor(2, 3)
	wantBest(t, lanesOf(0, 0, 0), k, 2, true)
	for what, bad := range badLanes() {
		for at := range 3 {
			l := lanesOf(0, 0, 0)
			l[at] = bad
			if at, ok := impl.BestLane(l, k); at != 0 || ok {
				t.Errorf("%s: BestLane = %d, %v", what, at, ok)
			}
		}
	}
	for _, none := range []string{"", key(impl.MaxKey + 1), " ", "a b", "a\n", "\x7f", "\x80", "é"} {
		wantBest(t, lanesOf(0, 0, 0), none, 0, false)
		wantBest(t, lanesOf(0), none, 0, false)
	}
}
