package tests

import "loop.example/g00170/impl"

// The tellings here are a second one of chapter 4, as plain as can be, that the program is held against.

func slowGoodLane(l impl.Lane) bool {
	good := 1 <= l.Epoch && l.Epoch <= mostEpoch
	good = good && 0 <= l.Faults && l.Faults <= mostFaults
	good = good && len(l.Waits) <= impl.MaxWaiting
	for i := range l.Waits {
		good = good && 0 <= l.Waits[i].Id
		good = good && 0 <= l.Waits[i].Since && l.Waits[i].Since <= impl.MaxNow
		for j := range i {
			good = good && l.Waits[j].Id != l.Waits[i].Id
			good = good && l.Waits[j].Since <= l.Waits[i].Since
		}
	}
	return good
}

// slowSend puts id in and asks whether the lane would be good, room put aside.
func slowSend(l impl.Lane, id, now int) (impl.Lane, int) {
	if !slowGoodLane(l) {
		return impl.Lane{}, impl.LaneBad
	}
	then := copyOfLane(l)
	then.Waits = append(then.Waits, impl.Wait{Id: id, Since: now})
	roomy := copyOfLane(then)
	if len(l.Waits) == impl.MaxWaiting {
		// One goes for room: neither the one with this id nor the last one.
		at := 0
		if l.Waits[0].Id == id {
			at = 1
		}
		roomy.Waits = append(roomy.Waits[:at:at], roomy.Waits[at+1:]...)
	}
	if !slowGoodLane(roomy) {
		return l, impl.LaneBad
	}
	if len(l.Waits) == impl.MaxWaiting {
		return l, impl.LaneFull
	}
	return then, impl.LaneOk
}

func slowAnswer(l impl.Lane, epoch int) (impl.Lane, int, int) {
	switch {
	case !slowGoodLane(l):
		return impl.Lane{}, 0, impl.LaneBad
	case epoch != l.Epoch:
		return l, 0, impl.LaneStale
	case len(l.Waits) == 0:
		return l, 0, impl.LaneNone
	}
	return impl.Lane{Epoch: l.Epoch, Waits: l.Waits[1:]}, l.Waits[0].Id, impl.LaneOk
}

func slowBreak(l impl.Lane) (impl.Lane, []int, int) {
	switch {
	case !slowGoodLane(l):
		return impl.Lane{}, nil, impl.LaneBad
	case l.Epoch == mostEpoch:
		return l, nil, impl.LaneFull
	}
	faults := l.Faults + 1
	if faults > mostFaults {
		faults = mostFaults
	}
	return impl.Lane{Epoch: l.Epoch + 1, Faults: faults}, idsOf(l), impl.LaneOk
}

func slowLate(l impl.Lane, now, most int) (bool, bool) {
	if !slowGoodLane(l) || now < 0 || now > impl.MaxNow || most < 0 || most > impl.MaxNow {
		return false, false
	}
	for _, w := range l.Waits {
		return w.Since+most < now, true
	}
	return false, true
}

func slowBest(l []impl.Lane, key string) (int, bool) {
	good := 1 <= len(l) && len(l) <= mostLanes && impl.GoodKey(key)
	for _, one := range l {
		good = good && slowGoodLane(one)
	}
	if !good {
		return 0, false
	}
	begin := int(slowHash(key)) % len(l)
	for _, from := range [][2]int{{begin, len(l)}, {0, begin}} {
		for at := from[0]; at < from[1]; at++ {
			if l[at].Faults <= 2 {
				return at, true
			}
		}
	}
	return begin, true
}
