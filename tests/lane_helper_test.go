package tests

import (
	"math"
	"slices"
	"testing"

	"loop.example/g00170/impl"
)

// The limits that chapter 4 tells without a name.
const (
	mostEpoch  = 1000000
	mostFaults = 1000000
	mostLanes  = 20
)

// sameLane takes the empty list and the nil list for the same, as the document does.
func sameLane(a, b impl.Lane) bool {
	return a.Epoch == b.Epoch && a.Faults == b.Faults && slices.Equal(a.Waits, b.Waits)
}

func copyOfLane(l impl.Lane) impl.Lane {
	l.Waits = slices.Clone(l.Waits)
	return l
}

// laneOf is a lane on which these ids wait, each since as much as its place.
func laneOf(ids ...int) impl.Lane {
	l := impl.Lane{Epoch: 1}
	for i, id := range ids {
		l.Waits = append(l.Waits, impl.Wait{Id: id, Since: i})
	}
	return l
}

// fullLane has MaxWaiting ids, the first one 100, waiting since 0, 1, 2 and on.
func fullLane() impl.Lane {
	var ids []int
	for i := range impl.MaxWaiting {
		ids = append(ids, 100+i)
	}
	return laneOf(ids...)
}

func idsOf(l impl.Lane) []int {
	var out []int
	for _, w := range l.Waits {
		out = append(out, w.Id)
	}
	return out
}

func wantSend(t *testing.T, l impl.Lane, id, now int, want impl.Lane, code int) {
	t.Helper()
	got, c := impl.SendOn(l, id, now)
	if !sameLane(got, want) || c != code {
		t.Errorf("SendOn(%v, %d, %d) = %v, %d; want %v, %d", l, id, now, got, c, want, code)
	}
}

func wantAnswer(t *testing.T, l impl.Lane, epoch int, want impl.Lane, id, code int) {
	t.Helper()
	got, i, c := impl.AnswerOn(l, epoch)
	if !sameLane(got, want) || i != id || c != code {
		t.Errorf("AnswerOn(%v, %d) = %v, %d, %d; want %v, %d, %d", l, epoch, got, i, c, want, id, code)
	}
}

func wantBreak(t *testing.T, l impl.Lane, want impl.Lane, ids []int, code int) {
	t.Helper()
	got, i, c := impl.BreakLane(l)
	if !sameLane(got, want) || !slices.Equal(i, ids) || c != code {
		t.Errorf("BreakLane(%v) = %v, %v, %d; want %v, %v, %d", l, got, i, c, want, ids, code)
	}
}

func wantLate(t *testing.T, l impl.Lane, now, most int, late, ok bool) {
	t.Helper()
	if a, b := impl.LateOn(l, now, most); a != late || b != ok {
		t.Errorf("LateOn(%v, %d, %d) = %v, %v; want %v, %v", l, now, most, a, b, late, ok)
	}
}

func wantBest(t *testing.T, l []impl.Lane, key string, at int, ok bool) {
	t.Helper()
	if a, b := impl.BestLane(l, key); a != at || b != ok {
		t.Errorf("BestLane(%v, %q) = %d, %v; want %d, %v", l, key, a, b, at, ok)
	}
}

// goodLanes have each condition of the chapter at its edges.
func goodLanes() map[string]impl.Lane {
	most := fullLane()
	most.Epoch, most.Faults = mostEpoch, mostFaults
	return map[string]impl.Lane{
		"the least":          {Epoch: 1},
		"an empty list":      {Epoch: 1, Waits: []impl.Wait{}},
		"the last epoch":     {Epoch: mostEpoch},
		"most faults":        {Epoch: 2, Faults: mostFaults},
		"the id 0":           laneOf(0),
		"the greatest id":    laneOf(math.MaxInt),
		"ids that fall":      laneOf(3, 2, 1, 0),
		"since 0":            {Epoch: 1, Waits: []impl.Wait{{Id: 5}}},
		"since MaxNow":       {Epoch: 1, Waits: []impl.Wait{{Id: 5, Since: impl.MaxNow}}},
		"since one now":      {Epoch: 1, Waits: []impl.Wait{{Id: 5, Since: 7}, {Id: 6, Since: 7}, {Id: 4, Since: 7}}},
		"since 0 and MaxNow": {Epoch: 1, Waits: []impl.Wait{{Id: 5}, {Id: 6, Since: impl.MaxNow}}},
		"nineteen":           {Epoch: 3, Faults: 2, Waits: fullLane().Waits[:impl.MaxWaiting-1]},
		"twenty":             fullLane(),
		"all at the edge":    most,
	}
}

// badLanes break one condition each.
func badLanes() map[string]impl.Lane {
	more := fullLane()
	more.Waits = append(more.Waits, impl.Wait{Id: 1, Since: 50})
	alikeLast := fullLane()
	alikeLast.Waits[impl.MaxWaiting-1].Id = alikeLast.Waits[0].Id
	lowLast := fullLane()
	lowLast.Waits[impl.MaxWaiting-1].Since = impl.MaxWaiting - 3
	waits := func(w ...impl.Wait) impl.Lane { return impl.Lane{Epoch: 1, Waits: w} }
	return map[string]impl.Lane{
		"the zero lane":         {},
		"zero epoch, one waits": {Waits: laneOf(4).Waits},
		"an epoch below 0":      {Epoch: -1},
		"the least epoch":       {Epoch: math.MinInt},
		"an epoch too great":    {Epoch: mostEpoch + 1},
		"the greatest epoch":    {Epoch: math.MaxInt},
		"an epoch of 2^32+1":    {Epoch: 1<<32 + 1},
		"faults below 0":        {Epoch: 1, Faults: -1},
		"the least faults":      {Epoch: 1, Faults: math.MinInt},
		"faults too great":      {Epoch: 1, Faults: mostFaults + 1},
		"the greatest faults":   {Epoch: 1, Faults: math.MaxInt},
		"twenty-one":            more,
		"an id below 0":         laneOf(-1),
		"a second id below 0":   laneOf(1, -1),
		"the least id":          laneOf(math.MinInt),
		"two of one id":         laneOf(6, 6),
		"two of the id 0":       laneOf(0, 0),
		"two apart of one id":   laneOf(6, 7, 8, 6),
		"the last of one id":    alikeLast,
		"since below 0":         waits(impl.Wait{Id: 1, Since: -1}),
		"since the least":       waits(impl.Wait{Id: 1, Since: math.MinInt}),
		"since too late":        waits(impl.Wait{Id: 1, Since: impl.MaxNow + 1}),
		"since the greatest":    waits(impl.Wait{Id: 1, Since: math.MaxInt}),
		"the second too late":   waits(impl.Wait{Id: 1, Since: 3}, impl.Wait{Id: 2, Since: impl.MaxNow + 1}),
		"below the one ahead":   waits(impl.Wait{Id: 1, Since: 9}, impl.Wait{Id: 2, Since: 8}),
		"the third below":       waits(impl.Wait{Id: 1, Since: 3}, impl.Wait{Id: 2, Since: 9}, impl.Wait{Id: 3, Since: 5}),
		"the last below":        lowLast,
	}
}

var wildInts = []int{math.MinInt, math.MinInt + 1, -impl.MaxNow, -2, -1, 0, 1, 2, 3, 4, 5, 7, 19, 20, 21, mostEpoch - 1, mostEpoch, mostEpoch + 1, impl.MaxNow - 1, impl.MaxNow, impl.MaxNow + 1, math.MaxInt - 1, math.MaxInt}

// wildLane is good more often than not; otherwise one thing in it is drawn from wildInts, or it has too many Waits.
func wildLane(n *numbers) impl.Lane {
	l := impl.Lane{Epoch: 1 + n.below(4), Faults: n.below(5)}
	since := n.below(10)
	for i := range n.below(impl.MaxWaiting + 1) {
		since += n.below(3)
		l.Waits = append(l.Waits, impl.Wait{Id: i*7 + n.below(7), Since: since})
	}
	switch n.below(12) {
	case 0:
		l.Epoch = pick(n, wildInts)
	case 1:
		l.Faults = pick(n, wildInts)
	case 2:
		l.Waits = append(l.Waits, fullLane().Waits...)
	case 3:
		if len(l.Waits) > 0 {
			l.Waits[n.below(len(l.Waits))].Id = pick(n, wildInts)
		}
	case 4:
		if len(l.Waits) > 0 {
			l.Waits[n.below(len(l.Waits))].Since = pick(n, wildInts)
		}
	}
	return l
}

// wildGoodLane is a wildLane that is good by the slow telling.
func wildGoodLane(n *numbers) impl.Lane {
	for {
		if l := wildLane(n); slowGoodLane(l) {
			return l
		}
	}
}
