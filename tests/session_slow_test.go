package tests

import "loop.example/g00170/impl"

// The tellings here are a second one of chapter 5, as plain as can be, that the program is held against.

func slowGoodSession(s impl.Session) bool {
	good := 0 <= s.Next && s.Next <= mostSlotNext
	good = good && len(s.Slots) <= impl.MaxOpen
	for i, one := range s.Slots {
		good = good && 0 <= one.Id && one.Id < s.Next
		good = good && len(one.Answer) <= mostAnswer
		if !one.Done {
			good = good && len(one.Answer) == 0
		}
		if i == 0 {
			good = good && !one.Done
		}
		for _, elder := range s.Slots[:i] {
			good = good && elder.Id < one.Id
		}
	}
	return good
}

func slowOpen(s impl.Session) (impl.Session, int, bool) {
	if !slowGoodSession(s) || len(s.Slots) >= impl.MaxOpen || s.Next >= mostSlotNext {
		return impl.Session{}, 0, false
	}
	then := copyOfSession(s)
	then.Slots = append(then.Slots, waiting(s.Next))
	then.Next = s.Next + 1
	return then, s.Next, true
}

func slowClose(s impl.Session, id int, answer string) (impl.Session, string, bool) {
	there := false
	then := copyOfSession(s)
	for i, one := range s.Slots {
		if one.Id == id && !one.Done {
			there = true
			then.Slots[i] = doneWith(id, answer)
		}
	}
	if !slowGoodSession(s) || !there || len(answer) > mostAnswer {
		return impl.Session{}, "", false
	}
	out := ""
	for len(then.Slots) > 0 && then.Slots[0].Done {
		out += then.Slots[0].Answer
		then.Slots = then.Slots[1:]
	}
	return then, out, true
}

func slowOpenIds(s impl.Session) ([]int, bool) {
	if !slowGoodSession(s) {
		return nil, false
	}
	var ids []int
	for _, one := range s.Slots {
		if !one.Done {
			ids = append(ids, one.Id)
		}
	}
	return ids, true
}

// slowPlay asks for each id of the order whether it was there before: what has gone out is what is closed from the front on.
func slowPlay(order []int, answers []string) (string, int, bool) {
	good := len(order) <= mostOrder && len(answers) <= impl.MaxOpen
	for _, a := range answers {
		good = good && len(a) <= mostAnswer
	}
	if !good {
		return "", 0, false
	}
	closed := map[int]bool{}
	for _, id := range order {
		if 0 <= id && id < len(answers) {
			closed[id] = true
		}
	}
	out := ""
	for i := 0; closed[i]; i++ {
		out += answers[i]
	}
	return out, len(answers) - len(closed), true
}
