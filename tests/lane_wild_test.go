package tests

import (
	"math"
	"slices"
	"testing"

	"loop.example/g00170/impl"
)

// Promise 4: what is sent one behind the other is answered in that order, each id once.
func TestAnswersComeInOrder(t *testing.T) {
	n := &numbers{}
	answered := 0
	for range 300 {
		l := wildGoodLane(n)
		asked := idsOf(l)
		now, id := impl.MaxNow/2, 1000
		var told []int
		for range 100 {
			if n.below(2) == 0 {
				then, code := impl.SendOn(l, id, now)
				if len(l.Waits) == impl.MaxWaiting {
					if code != impl.LaneFull || !sameLane(then, l) {
						t.Fatal(l, then, code)
					}
				} else if code != impl.LaneOk {
					t.Fatal(l, id, now, code)
				} else {
					asked = append(asked, id)
				}
				l, id, now = then, id+1, now+n.below(3)
				continue
			}
			then, got, code := impl.AnswerOn(l, l.Epoch)
			if len(told) == len(asked) {
				if code != impl.LaneNone || got != 0 || !sameLane(then, l) {
					t.Fatal(l, then, got, code)
				}
			} else if code != impl.LaneOk || then.Faults != 0 {
				t.Fatal(l, then, got, code)
			} else {
				told = append(told, got)
			}
			l = then
		}
		for len(l.Waits) > 0 {
			then, got, code := impl.AnswerOn(l, l.Epoch)
			if code != impl.LaneOk {
				t.Fatal(l, code)
			}
			l, told = then, append(told, got)
		}
		if !slices.Equal(told, asked) {
			t.Fatalf("%v was asked, %v was answered", asked, told)
		}
		answered += len(told)
	}
	if answered < 5000 {
		t.Error(answered)
	}
}

// Promise 4: an answer of another epoch changes nothing and is nobody's.
func TestAnswersOfAnotherEpoch(t *testing.T) {
	n := &numbers{}
	for range 2000 {
		l := wildGoodLane(n)
		for _, epoch := range append(wildInts, l.Epoch-1, l.Epoch+1) {
			if epoch != l.Epoch {
				wantAnswer(t, l, epoch, l, 0, impl.LaneStale)
			}
		}
	}
}

// Promise 4: a break tells all that waited, in order; what is sent behind it is answered by the new epoch alone.
func TestABreakTellsAllWhoWait(t *testing.T) {
	n := &numbers{}
	for range 1000 {
		l := wildGoodLane(n)
		if l.Epoch == mostEpoch {
			continue
		}
		elder := l.Epoch
		waited := idsOf(l)
		broken, told, code := impl.BreakLane(l)
		if code != impl.LaneOk || !slices.Equal(told, waited) || len(broken.Waits) != 0 || broken.Epoch != elder+1 {
			t.Fatal(l, broken, told, code)
		}
		wantAnswer(t, broken, elder, broken, 0, impl.LaneStale)
		wantAnswer(t, broken, broken.Epoch, broken, 0, impl.LaneNone)
		// Ids that waited, and elder times, may be used again.
		l = broken
		sent := append(waited, 5000)
		sent = sent[max(0, len(sent)-impl.MaxWaiting):]
		for _, id := range sent {
			if l, code = impl.SendOn(l, id, 0); code != impl.LaneOk {
				t.Fatal(l, id, code)
			}
		}
		for _, id := range sent {
			wantAnswer(t, l, elder, l, 0, impl.LaneStale)
			then, got, code := impl.AnswerOn(l, elder+1)
			if got != id || code != impl.LaneOk {
				t.Fatal(l, got, code)
			}
			l = then
		}
		wantAnswer(t, l, elder+1, l, 0, impl.LaneNone)
	}
}

// A row of sends, answers and breaks: each id that was sent is told once, by an answer or by a break, in the order of sending.
func TestEachIsToldOnce(t *testing.T) {
	n := &numbers{}
	breaks, stale := 0, 0
	for range 200 {
		l := impl.Lane{Epoch: 1}
		var sent, told []int
		now := 0
		for id := range 200 {
			switch n.below(8) {
			case 0, 1, 2, 3:
				then, code := impl.SendOn(l, id, now)
				if code == impl.LaneOk {
					sent = append(sent, id)
				}
				l = then
			case 4, 5:
				then, got, code := impl.AnswerOn(l, l.Epoch)
				if code == impl.LaneOk {
					told = append(told, got)
				}
				l = then
			case 6:
				then, _, code := impl.AnswerOn(l, l.Epoch-1)
				if code != impl.LaneStale {
					t.Fatal(l, code)
				}
				l = then
				stale++
			default:
				if n.below(4) == 0 {
					then, ids, _ := impl.BreakLane(l)
					told = append(told, ids...)
					l = then
					breaks++
				}
			}
			now += n.below(2)
			if !impl.GoodLane(l) {
				t.Fatalf("%v is not good", l)
			}
		}
		if want := append(slices.Clone(told), idsOf(l)...); !slices.Equal(sent, want) {
			t.Fatalf("sent %v, told and waiting %v", sent, want)
		}
	}
	if breaks < 500 || stale < 500 {
		t.Error(breaks, stale)
	}
}

// Promise 10: the answer at any arguments, held against the slow telling; and what was handed in is as it was.
func TestLanesAtAnyArguments(t *testing.T) {
	n := &numbers{}
	codes := map[string]int{}
	for range 30000 {
		l := wildLane(n)
		kept := copyOfLane(l)
		id, now := pick(n, wildInts), pick(n, wildInts)
		if n.below(2) == 0 {
			id, now = n.below(160), n.below(60)
		}
		want, code := slowSend(kept, id, now)
		wantSend(t, l, id, now, want, code)
		codes["send "+twoDigits(code)]++
		epoch := pick(n, wildInts)
		if n.below(2) == 0 {
			epoch = l.Epoch
		}
		then, first, code := slowAnswer(kept, epoch)
		wantAnswer(t, l, epoch, then, first, code)
		codes["answer "+twoDigits(code)]++
		broken, ids, code := slowBreak(kept)
		wantBreak(t, l, broken, ids, code)
		codes["break "+twoDigits(code)]++
		most := n.below(60)
		if n.below(4) == 0 {
			most = pick(n, wildInts)
		}
		late, ok := slowLate(kept, now, most)
		wantLate(t, l, now, most, late, ok)
		if !sameLane(l, kept) {
			t.Fatalf("the lane was %v, and is %v", kept, l)
		}
		if t.Failed() {
			return
		}
	}
	for _, c := range []string{"send 00", "send 01", "send 02", "answer 00", "answer 01", "answer 03", "answer 04", "break 00", "break 01", "break 02"} {
		if codes[c] < 30 {
			t.Error(c, codes[c])
		}
	}
}

func TestBestLaneAtAnyArguments(t *testing.T) {
	n := &numbers{}
	good, others := 0, 0
	for range 4000 {
		var l []impl.Lane
		for range n.below(mostLanes + 3) {
			l = append(l, wildGoodLane(n))
			if n.below(3) > 0 {
				l[len(l)-1].Faults = 2 + n.below(3)
			}
		}
		if len(l) > 0 && n.below(6) == 0 {
			l[n.below(len(l))] = wildLane(n)
		}
		kept := slices.Clone(l)
		for i := range kept {
			kept[i] = copyOfLane(kept[i])
		}
		k := pick(n, wildKeys(n, 5))
		if n.below(20) == 0 {
			k = pick(n, []string{"", " ", key(31), "a\x00"})
		}
		at, ok := slowBest(kept, k)
		wantBest(t, l, k, at, ok)
		if !slices.EqualFunc(l, kept, sameLane) {
			t.Fatalf("the lanes were %v, and are %v", kept, l)
		}
		if ok {
			good++
			if at != int(slowHash(k))%len(l) {
				others++
			}
		}
	}
	if good < 1000 || others < 300 {
		t.Error(good, others)
	}
}

// Promise 10: nothing behind the list's length is read, written or handed out, and no answer lies in an argument's memory, also beside a code.
func TestLanesShareNoMemory(t *testing.T) {
	behind := impl.Wait{Id: -77, Since: -77}
	for many := range impl.MaxWaiting + 1 {
		whole := make([]impl.Wait, impl.MaxWaiting+5)
		for i := range whole {
			whole[i] = behind
		}
		copy(whole, fullLane().Waits[:many])
		for _, epoch := range []int{1, mostEpoch} {
			l := impl.Lane{Epoch: epoch, Faults: 1, Waits: whole[:many]}
			now := impl.MaxNow
			var answers []impl.Lane
			for _, id := range []int{5, -1, 100} {
				got, _ := impl.SendOn(l, id, now)
				answers = append(answers, got)
			}
			for _, e := range []int{epoch, epoch + 1} {
				got, _, _ := impl.AnswerOn(l, e)
				answers = append(answers, got)
			}
			broken, ids, _ := impl.BreakLane(l)
			answers = append(answers, broken)
			again, sameIds, _ := impl.BreakLane(l)
			if sameList(ids, sameIds) || sameList(again.Waits, broken.Waits) {
				t.Error("two answers share their memory")
			}
			impl.LateOn(l, now, 0)
			impl.BestLane([]impl.Lane{l, l}, "k")
			wantUntouched(t, whole, many, behind)
			for i, a := range answers {
				wantOwnWaits(t, answers[:i], a, whole, behind)
			}
			wantUntouched(t, whole, many, behind)
		}
	}
}

func wantUntouched(t *testing.T, whole []impl.Wait, many int, behind impl.Wait) {
	t.Helper()
	if !slices.Equal(whole[:many], fullLane().Waits[:many]) {
		t.Errorf("what was handed in is %v", whole[:many])
	}
	for _, w := range whole[many:] {
		if w != behind {
			t.Errorf("behind the list stands %v", w)
		}
	}
}

// wantOwnWaits writes into the answer as far as its memory goes.
func wantOwnWaits(t *testing.T, elder []impl.Lane, a impl.Lane, whole []impl.Wait, behind impl.Wait) {
	t.Helper()
	if sameList(a.Waits, whole) {
		t.Errorf("%v lies in the argument's memory", a)
	}
	for _, e := range elder {
		if sameList(a.Waits, e.Waits) {
			t.Errorf("%v and %v share their memory", a, e)
		}
	}
	room := a.Waits[:cap(a.Waits)]
	if slices.Contains(room, behind) {
		t.Errorf("%v was handed out", room)
	}
	for i := range room {
		room[i] = impl.Wait{Id: math.MaxInt}
	}
}

// An answer stays as it is when what it came from is used again.
func TestAnElderLaneStaysAsItWas(t *testing.T) {
	base := laneOf(1, 2, 3)
	one, _ := impl.SendOn(base, 10, 50)
	two, _ := impl.SendOn(base, 20, 60)
	three, _ := impl.SendOn(one, 30, 70)
	four, _ := impl.SendOn(one, 40, 80)
	for _, c := range []struct {
		l    impl.Lane
		want []int
	}{{base, []int{1, 2, 3}}, {one, []int{1, 2, 3, 10}}, {two, []int{1, 2, 3, 20}}, {three, []int{1, 2, 3, 10, 30}}, {four, []int{1, 2, 3, 10, 40}}} {
		if !slices.Equal(idsOf(c.l), c.want) {
			t.Errorf("%v, want %v", idsOf(c.l), c.want)
		}
	}
}
