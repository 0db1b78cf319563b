package tests

import (
	"math"
	"testing"

	"loop.example/g00170/impl"
)

func TestSendOn(t *testing.T) {
	l := impl.Lane{Epoch: 4, Faults: 2}
	wantSend(t, l, 7, 3, impl.Lane{Epoch: 4, Faults: 2, Waits: []impl.Wait{{Id: 7, Since: 3}}}, impl.LaneOk)
	l.Waits = []impl.Wait{{Id: 7, Since: 3}, {Id: 2, Since: 5}}
	for _, c := range []struct{ id, now int }{{8, 6}, {0, 5}, {1, impl.MaxNow}, {math.MaxInt, 5}, {6, 5}} {
		want := copyOfLane(l)
		want.Waits = append(want.Waits, impl.Wait{Id: c.id, Since: c.now})
		wantSend(t, l, c.id, c.now, want, impl.LaneOk)
	}
	for _, now := range []int{0, impl.MaxNow} {
		wantSend(t, impl.Lane{Epoch: 1}, 0, now, impl.Lane{Epoch: 1, Waits: []impl.Wait{{Since: now}}}, impl.LaneOk)
	}
	last := impl.Lane{Epoch: mostEpoch, Faults: mostFaults}
	wantSend(t, last, 1, 1, impl.Lane{Epoch: mostEpoch, Faults: mostFaults, Waits: []impl.Wait{{Id: 1, Since: 1}}}, impl.LaneOk)
}

func TestSendOnBad(t *testing.T) {
	l := impl.Lane{Epoch: 4, Faults: 2, Waits: []impl.Wait{{Id: 7, Since: 3}, {Id: 2, Since: 5}}}
	for _, c := range []struct {
		what    string
		id, now int
	}{
		{"an id below 0", -1, 6},
		{"the least id", math.MinInt, 6},
		{"the first one waits", 7, 6},
		{"the last one waits", 2, 6},
		{"a now below 0", 8, -1},
		{"the least now", 8, math.MinInt},
		{"a now above MaxNow", 8, impl.MaxNow + 1},
		{"the greatest now", 8, math.MaxInt},
		{"a now below the last Since", 8, 4},
		{"a now above the first Since alone", 8, 3},
		{"all at once", -1, -1},
	} {
		t.Run(c.what, func(t *testing.T) { wantSend(t, l, c.id, c.now, l, impl.LaneBad) })
	}
	empty := impl.Lane{Epoch: 1, Faults: 5}
	wantSend(t, empty, -1, 0, empty, impl.LaneBad)
	wantSend(t, empty, 0, -1, empty, impl.LaneBad)
	wantSend(t, empty, 0, impl.MaxNow+1, empty, impl.LaneBad)
}

// LaneFull is looked for behind LaneBad.
func TestSendOnFull(t *testing.T) {
	full := fullLane()
	last := full.Waits[impl.MaxWaiting-1].Since
	wantSend(t, full, 1, last, full, impl.LaneFull)
	wantSend(t, full, 0, impl.MaxNow, full, impl.LaneFull)
	wantSend(t, full, -1, last, full, impl.LaneBad)
	wantSend(t, full, full.Waits[0].Id, last, full, impl.LaneBad)
	wantSend(t, full, full.Waits[impl.MaxWaiting-1].Id, last, full, impl.LaneBad)
	wantSend(t, full, 1, last-1, full, impl.LaneBad)
	wantSend(t, full, 1, -1, full, impl.LaneBad)
	wantSend(t, full, 1, impl.MaxNow+1, full, impl.LaneBad)
	room := copyOfLane(full)
	room.Waits = room.Waits[:impl.MaxWaiting-1]
	wantSend(t, room, full.Waits[impl.MaxWaiting-1].Id, last, full, impl.LaneOk)
}

func TestAnswerOn(t *testing.T) {
	l := impl.Lane{Epoch: 3, Faults: 2, Waits: []impl.Wait{{Id: 7, Since: 3}, {Id: 0, Since: 5}}}
	then := impl.Lane{Epoch: 3, Waits: []impl.Wait{{Id: 0, Since: 5}}}
	wantAnswer(t, l, 3, then, 7, impl.LaneOk)
	wantAnswer(t, then, 3, impl.Lane{Epoch: 3}, 0, impl.LaneOk)
	l.Faults, l.Epoch = mostFaults, mostEpoch
	then.Epoch = mostEpoch
	wantAnswer(t, l, mostEpoch, then, 7, impl.LaneOk)
	full := fullLane()
	rest := copyOfLane(full)
	rest.Waits = rest.Waits[1:]
	wantAnswer(t, full, 1, rest, 100, impl.LaneOk)
}

// Of another epoch, elder or later, an answer is nobody's, and the lane keeps its Faults.
func TestAnswerOnStaleAndNone(t *testing.T) {
	l := impl.Lane{Epoch: 3, Faults: 2, Waits: []impl.Wait{{Id: 7, Since: 3}, {Id: 8, Since: 5}}}
	empty := impl.Lane{Epoch: 3, Faults: 4}
	for _, epoch := range []int{math.MinInt, -3, -1, 0, 1, 2, 4, 5, mostEpoch, mostEpoch + 1, 1<<32 + 3, math.MaxInt} {
		wantAnswer(t, l, epoch, l, 0, impl.LaneStale)
		wantAnswer(t, empty, epoch, empty, 0, impl.LaneStale)
	}
	wantAnswer(t, empty, 3, empty, 0, impl.LaneNone)
}

func TestBreakLane(t *testing.T) {
	l := impl.Lane{Epoch: 3, Faults: 2, Waits: []impl.Wait{{Id: 7, Since: 3}, {Id: 0, Since: 5}, {Id: 4, Since: 5}}}
	wantBreak(t, l, impl.Lane{Epoch: 4, Faults: 3}, []int{7, 0, 4}, impl.LaneOk)
	wantBreak(t, impl.Lane{Epoch: 1}, impl.Lane{Epoch: 2, Faults: 1}, nil, impl.LaneOk)
	wantBreak(t, fullLane(), impl.Lane{Epoch: 2, Faults: 1}, idsOf(fullLane()), impl.LaneOk)
	for _, c := range []struct{ faults, then int }{{mostFaults - 2, mostFaults - 1}, {mostFaults - 1, mostFaults}, {mostFaults, mostFaults}} {
		l.Faults = c.faults
		wantBreak(t, l, impl.Lane{Epoch: 4, Faults: c.then}, []int{7, 0, 4}, impl.LaneOk)
	}
	l.Faults = 5
	l.Epoch = mostEpoch - 1
	wantBreak(t, l, impl.Lane{Epoch: mostEpoch, Faults: 6}, []int{7, 0, 4}, impl.LaneOk)
	l.Epoch = mostEpoch
	wantBreak(t, l, l, nil, impl.LaneFull)
	l.Waits = nil
	wantBreak(t, l, l, nil, impl.LaneFull)
}

// An answer ends the row of faults, a break begins it again.
func TestFaultsBehindAnAnswer(t *testing.T) {
	l := impl.Lane{Epoch: 1}
	for range 3 {
		l, _, _ = impl.BreakLane(l)
	}
	if l.Faults != 3 || l.Epoch != 4 {
		t.Fatal(l)
	}
	l, _ = impl.SendOn(l, 1, 1)
	l, _, _ = impl.AnswerOn(l, 4)
	if l.Faults != 0 || l.Epoch != 4 {
		t.Fatal(l)
	}
	l, _, _ = impl.BreakLane(l)
	if l.Faults != 1 || l.Epoch != 5 {
		t.Fatal(l)
	}
}
