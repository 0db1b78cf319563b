package tests

import (
	"math"
	"slices"
	"strings"
	"testing"

	"loop.example/g00170/impl"
)

// thirtyAnswers are unlike each other and of unlike lengths.
func thirtyAnswers() []string {
	var out []string
	for i := range impl.MaxOpen {
		out = append(out, twoDigits(i)+strings.Repeat(".", i%3)+"\r\n")
	}
	return out
}

func upTo(many int) []int {
	var out []int
	for i := range many {
		out = append(out, i)
	}
	return out
}

func TestPlaySession(t *testing.T) {
	abc := []string{"a", "b", "c"}
	wantPlay(t, []int{0, 1, 2}, abc, "abc", 0, true)
	wantPlay(t, []int{2, 1, 0}, abc, "abc", 0, true)
	wantPlay(t, []int{1, 0}, abc, "ab", 1, true)
	wantPlay(t, []int{0}, abc, "a", 2, true)
	wantPlay(t, []int{0, 2}, abc, "a", 1, true)
	wantPlay(t, []int{2}, abc, "", 2, true)
	wantPlay(t, []int{1, 2}, abc, "", 1, true)
	wantPlay(t, nil, abc, "", 3, true)
	wantPlay(t, []int{1, 2, 0}, []string{"", "b", ""}, "b", 0, true)
	wantPlay(t, []int{0, 1, 2}, []string{"", "", ""}, "", 0, true)
}

func TestPlaySessionWithoutAnswers(t *testing.T) {
	wantPlay(t, nil, nil, "", 0, true)
	wantPlay(t, []int{}, []string{}, "", 0, true)
	wantPlay(t, []int{0, 1, -1, math.MaxInt}, nil, "", 0, true)
	wantPlay(t, make([]int, mostOrder), nil, "", 0, true)
	wantPlay(t, make([]int, mostOrder+1), nil, "", 0, false)
}

func TestPlaySessionAtMostAnswers(t *testing.T) {
	answers := thirtyAnswers()
	whole := strings.Join(answers, "")
	order := upTo(impl.MaxOpen)
	wantPlay(t, order, answers, whole, 0, true)
	wantPlay(t, nil, answers, "", impl.MaxOpen, true)
	wantPlay(t, order[1:], answers, "", 1, true)
	slices.Reverse(order)
	wantPlay(t, order, answers, whole, 0, true)
	wantPlay(t, order, append(answers, "more"), "", 0, false)
	wantPlay(t, nil, append(answers, ""), "", 0, false)
	wantPlay(t, order, make([]string, 500), "", 0, false)
}

func TestPlaySessionAtTheLongestAnswers(t *testing.T) {
	long, longer := longAnswer(mostAnswer), longAnswer(mostAnswer+1)
	wantPlay(t, []int{1, 0}, []string{"a", long}, "a"+long, 0, true)
	for _, answers := range [][]string{{longer}, {longer, "b"}, {"a", longer}, append(thirtyAnswers()[1:], longer)} {
		wantPlay(t, upTo(len(answers)), answers, "", 0, false)
		wantPlay(t, []int{0}, answers, "", 0, false)
		// Also where it would not be closed.
		wantPlay(t, nil, answers, "", 0, false)
	}
	most := slices.Repeat([]string{long}, impl.MaxOpen)
	wantPlay(t, upTo(impl.MaxOpen), most, strings.Repeat(long, impl.MaxOpen), 0, true)
}

func TestPlaySessionAtTheLongestOrder(t *testing.T) {
	abc := []string{"a", "b", "c"}
	order := make([]int, mostOrder)
	for i := range order {
		order[i] = 1
	}
	wantPlay(t, order, abc, "", 2, true)
	order[mostOrder-1] = 0
	wantPlay(t, order, abc, "ab", 1, true)
	order[mostOrder-2] = 2
	wantPlay(t, order, abc, "abc", 0, true)
	wantPlay(t, append(order, 0), abc, "", 0, false)
	wantPlay(t, append(order, 0, 0, 0), abc, "", 0, false)
}

// A number that is no slot's id is passed over, and so is one that comes again.
func TestPlaySessionPassesOver(t *testing.T) {
	abc := []string{"a", "b", "c"}
	for _, no := range []int{-1, -3, 3, 4, 29, 30, 31, 100, mostSlotNext, math.MinInt, math.MaxInt} {
		wantPlay(t, []int{no}, abc, "", 3, true)
		wantPlay(t, []int{no, 0, no, 2, no, 1, no}, abc, "abc", 0, true)
		wantPlay(t, []int{1, no, 0}, abc, "ab", 1, true)
	}
	wantPlay(t, []int{0, 0}, abc, "a", 2, true)
	wantPlay(t, []int{2, 2, 0, 2}, abc, "a", 1, true)
	wantPlay(t, []int{1, 0, 1, 0}, abc, "ab", 1, true)
	wantPlay(t, []int{2, 1, 0, 0, 1, 2}, abc, "abc", 0, true)
}

// Alike answers are told as often as they were asked for.
func TestPlaySessionOfAlikeAnswers(t *testing.T) {
	wantPlay(t, []int{1, 2, 0}, []string{"x", "x", "x"}, "xxx", 0, true)
	wantPlay(t, []int{1, 1, 0}, []string{"x", "x", "x"}, "xx", 1, true)
}

func TestPlaySessionAgainstSlow(t *testing.T) {
	n := &numbers{}
	some, whole, refused := 0, 0, 0
	for range 20000 {
		var answers []string
		for range n.below(impl.MaxOpen + 2) {
			answers = append(answers, wildAnswer(n))
		}
		var order []int
		for range n.below(mostOrder + 2) {
			id := n.below(len(answers) + 1)
			if n.below(10) == 0 {
				id = pick(n, wildSlotInts)
			}
			order = append(order, id)
		}
		keptOrder, keptAnswers := slices.Clone(order), slices.Clone(answers)
		out, left, ok := slowPlay(keptOrder, keptAnswers)
		wantPlay(t, order, answers, out, left, ok)
		if !slices.Equal(order, keptOrder) || !slices.Equal(answers, keptAnswers) {
			t.Fatal("an argument was changed")
		}
		if t.Failed() {
			return
		}
		switch {
		case !ok:
			refused++
		case left == 0 && len(answers) > 5:
			whole++
		case out != "":
			some++
		}
	}
	if some < 1000 || whole < 1000 || refused < 1000 {
		t.Error(some, whole, refused)
	}
}

// PlaySession is what OpenSlot and CloseSlot say, one after the other.
func TestPlaySessionBySlots(t *testing.T) {
	n := &numbers{}
	answers := thirtyAnswers()
	for range 300 {
		many := n.below(impl.MaxOpen + 1)
		var order []int
		for range n.below(mostOrder + 1) {
			order = append(order, n.below(impl.MaxOpen+3)-1)
		}
		s := impl.Session{}
		for range many {
			s, _, _ = impl.OpenSlot(s)
		}
		out := ""
		for _, id := range order {
			if id < 0 || id >= many {
				continue
			}
			if then, gone, ok := impl.CloseSlot(s, id, answers[id]); ok {
				s, out = then, out+gone
			}
		}
		left, _ := impl.OpenIds(s)
		wantPlay(t, order, answers[:many], out, len(left), true)
	}
}
