package tests

import (
	"testing"

	"loop.example/g00170/impl"
)

func TestGoodLane(t *testing.T) {
	for what, l := range goodLanes() {
		if !impl.GoodLane(l) {
			t.Errorf("%s: GoodLane(%v) says false", what, l)
		}
		if !slowGoodLane(l) {
			t.Errorf("%s: the slow telling says false", what)
		}
	}
}

func TestLanesThatAreNotGood(t *testing.T) {
	for what, l := range badLanes() {
		if impl.GoodLane(l) {
			t.Errorf("%s: GoodLane(%v) says true", what, l)
		}
		if slowGoodLane(l) {
			t.Errorf("%s: the slow telling says true", what)
		}
	}
}

// A lane that is not good is LaneBad with the zero lane, whatever else holds.
func TestNothingOnALaneThatIsNotGood(t *testing.T) {
	for what, l := range badLanes() {
		t.Run(what, func(t *testing.T) {
			wantSend(t, l, 900, impl.MaxNow, impl.Lane{}, impl.LaneBad)
			wantSend(t, l, -1, -1, impl.Lane{}, impl.LaneBad)
			wantAnswer(t, l, l.Epoch, impl.Lane{}, 0, impl.LaneBad)
			wantAnswer(t, l, l.Epoch+1, impl.Lane{}, 0, impl.LaneBad)
			wantAnswer(t, l, 1, impl.Lane{}, 0, impl.LaneBad)
			wantBreak(t, l, impl.Lane{}, nil, impl.LaneBad)
			wantLate(t, l, impl.MaxNow, 0, false, false)
			wantBest(t, []impl.Lane{l}, "k", 0, false)
		})
	}
}

func TestGoodLaneAgainstSlow(t *testing.T) {
	n := &numbers{}
	good, bad := 0, 0
	for range 20000 {
		l := wildLane(n)
		want := slowGoodLane(l)
		if got := impl.GoodLane(l); got != want {
			t.Fatalf("GoodLane(%v) = %v", l, got)
		}
		if want {
			good++
		} else {
			bad++
		}
	}
	if good < 1000 || bad < 1000 {
		t.Error(good, bad)
	}
}
