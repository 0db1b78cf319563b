package tests

import (
	"slices"
	"strings"
	"testing"

	"loop.example/g00170/impl"
)

// wildCmd is a good command over few keys, so that they meet.
func wildCmd(n *numbers, keys int, s impl.Store) impl.Cmd {
	k := func() string { return twoDigits(n.below(keys)) }
	names := []string{"get", "gets", "set", "set", "set", "set", "add", "replace", "append", "prepend", "cas", "incr", "decr", "touch", "delete", "version", "quit"}
	c := impl.Cmd{Name: pick(n, names)}
	if n.below(60) == 0 {
		c.Name = "flush_all"
	}
	switch c.Name {
	case "flush_all", "version", "quit":
		return c
	case "get", "gets":
		for range 1 + n.below(impl.MaxKeys) {
			c.Keys = append(c.Keys, k())
		}
		return c
	}
	c.Keys = []string{k()}
	c.Quiet = n.below(4) == 0
	switch c.Name {
	case "delete":
		return c
	case "incr", "decr":
		c.Number = pick(n, edgeNumbers)
		return c
	case "touch":
		c.Expire = n.below(40)
		return c
	}
	c.Flags, c.Expire = pick(n, edgeNumbers), max(0, n.below(60)-20)
	c.Data = pick(n, []string{"", "0", "7", "99", strings.Repeat("9", 18), "0" + strings.Repeat("1", 3), "x\r\ny", strings.Repeat("x", n.below(impl.MaxValue+1))})
	if c.Name == "cas" {
		c.Number = max(0, s.Next-n.below(5))
		if len(s.Items) > 0 && n.below(2) == 0 {
			it := pick(n, s.Items)
			c.Keys[0], c.Number = it.Key, it.Token
		}
	}
	return c
}

// Promise 2, over long rows of commands: answers, items, their order, Token
// and Next are those of the second telling, and the store stays good.
func TestStoreAgainstSlowStore(t *testing.T) {
	n := &numbers{}
	told := map[string]int{}
	forgot := 0
	for round := range 60 {
		s := impl.Store{Limit: pick(n, []int{0, 12, 50, 130, 300, 1000, 3000, impl.MaxLimit}), Next: 1}
		if round%10 == 0 {
			s.Next = mostTokens - 50
		}
		now, keys := 0, pick(n, []int{3, 8, 30, 90})
		for range 400 {
			if n.below(4) == 0 {
				now += n.below(12)
			}
			c := wildCmd(n, keys, s)
			want, answer, lost := slowDo(s, now, c)
			then, text, gone := done(t, s, now, c)
			if !sameStore(then, want) || text != answer || gone != lost {
				t.Fatalf("DoStore(%+v, %d, %+v) = %+v, %q, %d; want %+v, %q, %d", s, now, c, then, text, gone, want, answer, lost)
			}
			wantGood(t, c.Name, then)
			for _, k := range []string{twoDigits(n.below(keys)), "none"} {
				it, there := impl.FindItem(then, now, k)
				i := slices.IndexFunc(want.Items, func(it impl.Item) bool { return it.Key == k })
				if there != (i >= 0) || there && it != want.Items[i] {
					t.Fatalf("FindItem of %s in %+v = %+v, %v", k, then, it, there)
				}
			}
			told[strings.SplitN(text, " ", 2)[0]]++
			forgot += gone
			s = then
		}
	}
	for _, answer := range []string{"STORED\r\n", "NOT_STORED\r\n", "EXISTS\r\n", "NOT_FOUND\r\n", "TOUCHED\r\n", "DELETED\r\n", "OK\r\n", "VERSION", "SERVER_ERROR", "CLIENT_ERROR", "VALUE", "END\r\n", ""} {
		if told[answer] == 0 {
			t.Errorf("%q was never told", answer)
		}
	}
	if forgot < 100 {
		t.Error("too few were forgotten:", forgot)
	}
}

func TestCountTextAgainstSlowCount(t *testing.T) {
	n := &numbers{}
	for range 20000 {
		data := make([]byte, n.below(21))
		for i := range data {
			data[i] = pick(n, []byte("0012345678999"))
			if n.below(80) == 0 {
				data[i] = byte(n.below(256))
			}
		}
		by := pick(n, edgeNumbers) + n.below(3) - 1
		down := n.below(2) == 0
		text, ok := impl.CountText(string(data), by, down)
		want, wantOk := slowCount(string(data), by, down)
		if !wantOk {
			want = ""
		}
		if text != want || ok != wantOk {
			t.Errorf("CountText(%q, %d, %v) = %q, %v; want %q, %v", data, by, down, text, ok, want, wantOk)
		}
	}
}

// Promise 10: whatever a store, a now and a command are, there is an answer, and it is the zero answer unless all are good.
func TestAnyStore(t *testing.T) {
	n := &numbers{}
	good, bad := 0, 0
	for range 20000 {
		s := wildStore(n)
		now := pick(n, []int{-1, 0, 5, 100, impl.MaxNow, impl.MaxNow + 1})
		c := wildCmd(n, 5, s)
		if n.below(5) == 0 {
			c.Name = pick(n, []string{"", "get", "cas", "quit", "set", "touch"})
		}
		before, keys := copyOfStore(s), slices.Clone(c.Keys)
		isGood := slowGood(s)
		if impl.GoodStore(s) != isGood {
			t.Fatalf("GoodStore(%+v) = %v", s, !isGood)
		}
		if !isGood {
			wantNoStore(t, "any store", s)
			bad++
		} else if !impl.GoodCmd(c) || now < 0 || now > impl.MaxNow {
			wantNotDone(t, "any command", s, now, c)
		} else {
			good++
			want, answer, lost := slowDo(s, now, c)
			wantDone(t, s, now, c, want, answer, lost)
		}
		if !sameStore(s, before) || !slices.Equal(c.Keys, keys) {
			t.Fatalf("the arguments became %+v and %+v", s, c)
		}
	}
	if good < 1000 || bad < 1000 {
		t.Error(good, bad)
	}
}

// wildStore is good, or one or two steps away from it.
func wildStore(n *numbers) impl.Store {
	s := impl.Store{Next: pick(n, []int{10, 100, mostTokens}), Limit: pick(n, []int{30, 100, impl.MaxLimit})}
	for i := range n.below(6) {
		s.Items = append(s.Items, impl.Item{Key: twoDigits(i), Flags: pick(n, edgeNumbers), Data: pick(n, []string{"", "5", "data"}), Until: n.below(2) * 5, Token: 1 + i})
	}
	if len(s.Items) == 0 || n.below(2) == 0 {
		return s
	}
	it := &s.Items[n.below(len(s.Items))]
	switch n.below(8) {
	case 0:
		it.Key = pick(n, []string{"", "00", "01", key(impl.MaxKey), key(impl.MaxKey + 1), "a b"})
	case 1:
		it.Flags = pick(n, []int{-1, impl.MaxNumber, impl.MaxNumber + 1, -1 << 63})
	case 2:
		it.Data = strings.Repeat("x", impl.MaxValue+n.below(2))
	case 3:
		it.Until = pick(n, []int{-1, 2 * impl.MaxNumber, 2*impl.MaxNumber + 1, 1<<63 - 1})
	case 4:
		it.Token = pick(n, []int{-1, 0, 1, 2, s.Next - 1, s.Next, s.Next + 1})
	case 5:
		s.Next = pick(n, []int{-1, 0, 1, 2, mostTokens, mostTokens + 1})
	case 6:
		s.Limit = pick(n, []int{-1, 0, impl.MaxLimit, impl.MaxLimit + 1, chargeByHand(s.Items), chargeByHand(s.Items) - 1})
	case 7:
		for len(s.Items) < impl.MaxItems+n.below(2) {
			s.Items = append(s.Items, impl.Item{Key: "k" + twoDigits(len(s.Items)), Token: 1 + len(s.Items)})
		}
	}
	return s
}

func slowGood(s impl.Store) bool {
	if s.Limit < 0 || s.Limit > impl.MaxLimit || s.Next < 1 || s.Next > mostTokens || len(s.Items) > impl.MaxItems {
		return false
	}
	for i, it := range s.Items {
		if !impl.GoodKey(it.Key) || it.Flags < 0 || it.Flags > impl.MaxNumber || len(it.Data) > impl.MaxValue ||
			it.Until < 0 || it.Until > 2*impl.MaxNumber || it.Token < 1 || it.Token >= s.Next {
			return false
		}
		for _, other := range s.Items[:i] {
			if other.Key == it.Key || other.Token == it.Token {
				return false
			}
		}
	}
	return chargeByHand(s.Items) <= s.Limit
}

// Promise 10: what is answered is new memory: no text and no list of it lies in an argument.
func TestStoreAnswersAreNew(t *testing.T) {
	for _, step := range stepsOnThree() {
		s, c := copyOfStore(threeItems()), step.cmd
		c.Data = strings.Clone(c.Data)
		c.Keys = slices.Clone(c.Keys)
		for i := range c.Keys {
			c.Keys[i] = strings.Clone(c.Keys[i])
		}
		given := append(storeTexts(s), c.Keys...)
		given = append(given, c.Data)
		then, answer, _ := done(t, s, 20, c)
		if sharesOne(append(storeTexts(then), answer), given) || sameList(then.Items, s.Items) {
			t.Errorf("the answer to %+v lies in the arguments", c)
		}
		wantStore(t, "the argument", s, threeItems())
	}
	s := copyOfStore(threeItems())
	for _, now := range []int{0, 50, 100} {
		then, _, _ := impl.DropOld(s, now)
		if sharesOne(storeTexts(then), storeTexts(s)) || sameList(then.Items, s.Items) {
			t.Error("what DropOld answers lies in its argument")
		}
		it, _ := impl.FindItem(s, now, "b")
		if sharesOne([]string{it.Key, it.Data}, storeTexts(s)) {
			t.Error("what FindItem answers lies in its argument")
		}
	}
	wantStore(t, "the argument", s, threeItems())
}

// An append of nothing, and to nothing, is no reason to hand out what was handed in.
func TestAppendedIsNew(t *testing.T) {
	for _, name := range []string{"append", "prepend"} {
		for _, c := range []struct{ has, more string }{{"", "more"}, {"has", ""}, {"has", "more"}} {
			s := storeOf(impl.Item{Key: "k", Data: strings.Clone(c.has), Token: 1})
			s.Next = 2
			cmd := impl.Cmd{Name: name, Keys: []string{"k"}, Data: strings.Clone(c.more)}
			then, _, _ := done(t, s, 0, cmd)
			if sharesOne(storeTexts(then), append(storeTexts(s), cmd.Data)) {
				t.Errorf("%s of %q to %q lies in the arguments", name, c.more, c.has)
			}
		}
	}
}
