package tests

import (
	"strings"
	"testing"

	"loop.example/g00170/impl"
)

// step is a command on threeItems at 20: what the store's items and Next are
// then, and what is answered. An item of the token 9 was stored by it.
type step struct {
	cmd    impl.Cmd
	items  []impl.Item
	next   int
	answer string
}

func stepsOnThree() []step {
	one := func(k string) []string { return []string{k} }
	s := threeItems()
	a, b, c := s.Items[0], s.Items[1], s.Items[2]
	abc := s.Items
	hundred := strings.Repeat("h", impl.MaxValue)
	with := func(it impl.Item, data string) impl.Item { it.Data, it.Token = data, 9; return it }
	until := func(it impl.Item, until int) impl.Item { it.Until = until; return it }
	list := func(l ...impl.Item) []impl.Item { return l }
	return []step{
		{impl.Cmd{Name: "get", Keys: one("a")}, list(b, c, a), 9, "VALUE a 1 5\r\nalpha\r\nEND\r\n"},
		{impl.Cmd{Name: "gets", Keys: one("a")}, list(b, c, a), 9, "VALUE a 1 5 4\r\nalpha\r\nEND\r\n"},
		{impl.Cmd{Name: "get", Keys: one("c")}, abc, 9, "VALUE c 3 0\r\n\r\nEND\r\n"},
		{impl.Cmd{Name: "gets", Keys: one("c")}, abc, 9, "VALUE c 3 0 2\r\n\r\nEND\r\n"},
		{impl.Cmd{Name: "get", Keys: one("d")}, abc, 9, "END\r\n"},
		{impl.Cmd{Name: "gets", Keys: one("d")}, abc, 9, "END\r\n"},
		{impl.Cmd{Name: "get", Keys: []string{"c", "d", "a"}}, list(b, c, a), 9, "VALUE c 3 0\r\n\r\nVALUE a 1 5\r\nalpha\r\nEND\r\n"},
		{impl.Cmd{Name: "gets", Keys: []string{"b", "b", "a", "b"}}, list(c, a, b), 9, "VALUE b 2 1 8\r\n7\r\nVALUE b 2 1 8\r\n7\r\nVALUE a 1 5 4\r\nalpha\r\nVALUE b 2 1 8\r\n7\r\nEND\r\n"},
		{impl.Cmd{Name: "get", Keys: []string{"b", "a", "b", "a"}}, list(c, b, a), 9, "VALUE b 2 1\r\n7\r\nVALUE a 1 5\r\nalpha\r\nVALUE b 2 1\r\n7\r\nVALUE a 1 5\r\nalpha\r\nEND\r\n"},

		{impl.Cmd{Name: "set", Keys: one("d"), Flags: 7, Expire: 3, Data: "x\r\ny"}, list(a, b, c, impl.Item{Key: "d", Flags: 7, Data: "x\r\ny", Until: 23, Token: 9}), 10, "STORED\r\n"},
		{impl.Cmd{Name: "set", Keys: one("a"), Data: hundred}, list(b, c, impl.Item{Key: "a", Data: hundred, Token: 9}), 10, "STORED\r\n"},
		{impl.Cmd{Name: "add", Keys: one("d"), Flags: impl.MaxNumber}, list(a, b, c, impl.Item{Key: "d", Flags: impl.MaxNumber, Token: 9}), 10, "STORED\r\n"},
		{impl.Cmd{Name: "add", Keys: one("a"), Flags: 7, Data: "x"}, abc, 9, "NOT_STORED\r\n"},
		{impl.Cmd{Name: "replace", Keys: one("b"), Flags: 7, Expire: 1, Data: "x"}, list(a, c, impl.Item{Key: "b", Flags: 7, Data: "x", Until: 21, Token: 9}), 10, "STORED\r\n"},
		{impl.Cmd{Name: "replace", Keys: one("d"), Data: "x"}, abc, 9, "NOT_STORED\r\n"},

		{impl.Cmd{Name: "append", Keys: one("a"), Flags: 9, Expire: 9, Data: "bet"}, list(b, c, with(a, "alphabet")), 10, "STORED\r\n"},
		{impl.Cmd{Name: "prepend", Keys: one("a"), Flags: 9, Expire: 9, Data: "bet"}, list(b, c, with(a, "betalpha")), 10, "STORED\r\n"},
		{impl.Cmd{Name: "append", Keys: one("b")}, list(a, c, with(b, "7")), 10, "STORED\r\n"},
		{impl.Cmd{Name: "prepend", Keys: one("c"), Data: "x"}, list(a, b, with(c, "x")), 10, "STORED\r\n"},
		{impl.Cmd{Name: "append", Keys: one("a"), Data: hundred[5:]}, list(b, c, with(a, "alpha"+hundred[5:])), 10, "STORED\r\n"},
		{impl.Cmd{Name: "prepend", Keys: one("a"), Data: hundred[5:]}, list(b, c, with(a, hundred[5:]+"alpha")), 10, "STORED\r\n"},
		{impl.Cmd{Name: "append", Keys: one("a"), Data: hundred[4:]}, abc, 9, "SERVER_ERROR large\r\n"},
		{impl.Cmd{Name: "prepend", Keys: one("a"), Data: hundred[4:]}, abc, 9, "SERVER_ERROR large\r\n"},
		{impl.Cmd{Name: "append", Keys: one("d"), Data: "x"}, abc, 9, "NOT_STORED\r\n"},
		{impl.Cmd{Name: "prepend", Keys: one("d"), Data: "x"}, abc, 9, "NOT_STORED\r\n"},

		{impl.Cmd{Name: "cas", Keys: one("a"), Flags: 6, Expire: 5, Number: 4, Data: "new"}, list(b, c, impl.Item{Key: "a", Flags: 6, Data: "new", Until: 25, Token: 9}), 10, "STORED\r\n"},
		{impl.Cmd{Name: "cas", Keys: one("a"), Number: 3, Data: "new"}, abc, 9, "EXISTS\r\n"},
		{impl.Cmd{Name: "cas", Keys: one("a"), Number: 5, Data: "new"}, abc, 9, "EXISTS\r\n"},
		{impl.Cmd{Name: "cas", Keys: one("a"), Data: "new"}, abc, 9, "EXISTS\r\n"},
		{impl.Cmd{Name: "cas", Keys: one("a"), Number: 8, Data: "new"}, abc, 9, "EXISTS\r\n"},
		{impl.Cmd{Name: "cas", Keys: one("d"), Number: 4, Data: "new"}, abc, 9, "NOT_FOUND\r\n"},
		{impl.Cmd{Name: "cas", Keys: one("d"), Data: "new"}, abc, 9, "NOT_FOUND\r\n"},

		{impl.Cmd{Name: "incr", Keys: one("b"), Number: 5}, list(a, c, with(b, "12")), 10, "12\r\n"},
		{impl.Cmd{Name: "incr", Keys: one("b")}, list(a, c, with(b, "7")), 10, "7\r\n"},
		{impl.Cmd{Name: "decr", Keys: one("b"), Number: 5}, list(a, c, with(b, "2")), 10, "2\r\n"},
		{impl.Cmd{Name: "decr", Keys: one("b"), Number: 7}, list(a, c, with(b, "0")), 10, "0\r\n"},
		{impl.Cmd{Name: "decr", Keys: one("b"), Number: 8}, list(a, c, with(b, "0")), 10, "0\r\n"},
		{impl.Cmd{Name: "incr", Keys: one("a"), Number: 5}, abc, 9, "CLIENT_ERROR bad\r\n"},
		{impl.Cmd{Name: "decr", Keys: one("c"), Number: 5}, abc, 9, "CLIENT_ERROR bad\r\n"},
		{impl.Cmd{Name: "incr", Keys: one("d"), Number: 5}, abc, 9, "NOT_FOUND\r\n"},
		{impl.Cmd{Name: "decr", Keys: one("d"), Number: 5}, abc, 9, "NOT_FOUND\r\n"},

		{impl.Cmd{Name: "touch", Keys: one("a"), Expire: 7}, list(b, c, until(a, 27)), 9, "TOUCHED\r\n"},
		{impl.Cmd{Name: "touch", Keys: one("a")}, list(b, c, until(a, 0)), 9, "TOUCHED\r\n"},
		{impl.Cmd{Name: "touch", Keys: one("b"), Expire: impl.MaxNumber}, list(a, c, until(b, impl.MaxNumber+20)), 9, "TOUCHED\r\n"},
		{impl.Cmd{Name: "touch", Keys: one("d"), Expire: 7}, abc, 9, "NOT_FOUND\r\n"},
		{impl.Cmd{Name: "delete", Keys: one("a")}, list(b, c), 9, "DELETED\r\n"},
		{impl.Cmd{Name: "delete", Keys: one("b")}, list(a, c), 9, "DELETED\r\n"},
		{impl.Cmd{Name: "delete", Keys: one("c")}, list(a, b), 9, "DELETED\r\n"},
		{impl.Cmd{Name: "delete", Keys: one("d")}, abc, 9, "NOT_FOUND\r\n"},
		{impl.Cmd{Name: "flush_all"}, nil, 9, "OK\r\n"},
		{impl.Cmd{Name: "version"}, abc, 9, "VERSION 1\r\n"},
		{impl.Cmd{Name: "quit"}, abc, 9, ""},
	}
}

func TestEachCommand(t *testing.T) {
	for _, s := range stepsOnThree() {
		wantDone(t, threeItems(), 20, s.cmd, impl.Store{Limit: 1000, Next: s.next, Items: s.items}, s.answer, 0)
	}
}

// With Quiet all is done as without, and nothing is told.
func TestEachCommandQuiet(t *testing.T) {
	for _, s := range stepsOnThree() {
		s.cmd.Quiet = true
		if !impl.GoodCmd(s.cmd) {
			wantNotDone(t, "a kind that is never quiet", threeItems(), 20, s.cmd)
			continue
		}
		wantDone(t, threeItems(), 20, s.cmd, impl.Store{Limit: 1000, Next: s.next, Items: s.items}, "", 0)
	}
}

func TestCommandsThatAreNotGood(t *testing.T) {
	for _, c := range badCmds() {
		wantNotDone(t, "a command that is not good", threeItems(), 20, c)
	}
}

// Ten keys of thirty bytes are a good command, though no line has room for them.
func TestMostKeys(t *testing.T) {
	k := key(impl.MaxKey)
	data := strings.Repeat("d", impl.MaxValue)
	it := impl.Item{Key: k, Flags: impl.MaxNumber, Data: data, Token: mostTokens - 1}
	s := storeOf(it)
	value := "VALUE " + k + " 1000000000 100"
	wantDone(t, s, 0, impl.Cmd{Name: "get", Keys: manyKeys(impl.MaxKeys, impl.MaxKey)}, s,
		strings.Repeat(value+"\r\n"+data+"\r\n", impl.MaxKeys)+"END\r\n", 0)
	wantDone(t, s, 0, impl.Cmd{Name: "gets", Keys: manyKeys(impl.MaxKeys, impl.MaxKey)}, s,
		strings.Repeat(value+" 999999999\r\n"+data+"\r\n", impl.MaxKeys)+"END\r\n", 0)
	wantNotDone(t, "eleven keys", s, 0, impl.Cmd{Name: "get", Keys: manyKeys(impl.MaxKeys+1, 1)})
}

// incr at what CountText refuses, and at its longest answer.
func TestCountingInStore(t *testing.T) {
	nines := strings.Repeat("9", 18)
	for data, want := range map[string]string{
		"0": "1", "9": "10", strings.Repeat("9", 17): "100000000000000000", strings.Repeat("9", 17) + "8": nines,
		nines: "", "": "", "00": "", "01": "", "-1": "", "1 ": "", "x": "", "1" + nines: "",
	} {
		it := impl.Item{Key: "n", Flags: 4, Data: data, Until: 60, Token: 1}
		s := impl.Store{Limit: 100, Next: 2, Items: []impl.Item{it}}
		if want == "" {
			wantDone(t, s, 0, impl.Cmd{Name: "incr", Keys: []string{"n"}, Number: 1}, s, "CLIENT_ERROR bad\r\n", 0)
			continue
		}
		it.Data, it.Token = want, 2
		wantDone(t, s, 0, impl.Cmd{Name: "incr", Keys: []string{"n"}, Number: 1}, impl.Store{Limit: 100, Next: 3, Items: []impl.Item{it}}, want+"\r\n", 0)
	}
}

// What is set with room is told as it was set, till it is old, deleted or flushed.
func TestToldAsItWasSet(t *testing.T) {
	data := "\x00\r\nEND\r\n\xff"
	for _, last := range []impl.Cmd{{Name: "delete", Keys: []string{"k"}}, {Name: "flush_all"}, {Name: "version"}} {
		s := threeItems()
		s, _, _ = done(t, s, 20, impl.Cmd{Name: "set", Keys: []string{"k"}, Flags: 12, Expire: 10, Data: data})
		for now := 20; now < 30; now++ {
			for _, other := range []impl.Cmd{{Name: "set", Keys: []string{"a"}, Data: "o"}, {Name: "delete", Keys: []string{"b"}}, {Name: "get", Keys: []string{"c"}}, {Name: "quit"}} {
				s, _, _ = done(t, s, now, other)
			}
			var get, gets string
			s, get, _ = done(t, s, now, impl.Cmd{Name: "get", Keys: []string{"k"}})
			s, gets, _ = done(t, s, now, impl.Cmd{Name: "gets", Keys: []string{"k"}})
			if get != "VALUE k 12 9\r\n"+data+"\r\nEND\r\n" || gets != "VALUE k 12 9 9\r\n"+data+"\r\nEND\r\n" {
				t.Errorf("at %d: %q %q", now, get, gets)
			}
		}
		now := 29
		if last.Name == "version" {
			now = 30
		}
		s, _, _ = done(t, s, now, last)
		if _, answer, _ := done(t, s, now, impl.Cmd{Name: "get", Keys: []string{"k"}}); answer != "END\r\n" {
			t.Errorf("behind %s: %q", last.Name, answer)
		}
	}
}
