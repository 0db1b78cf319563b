package tests

import (
	"slices"
	"strings"
	"testing"

	"loop.example/g00170/impl"
)

// sized is an item of just that charge.
func sized(k string, charge, token int) impl.Item {
	return impl.Item{Key: k, Data: strings.Repeat("s", charge-10-len(k)), Token: token}
}

func setOf(it impl.Item) impl.Cmd {
	return impl.Cmd{Name: "set", Keys: []string{it.Key}, Flags: it.Flags, Data: it.Data}
}

// As many go as must, from the front: the first of three charges of 20, 30 and 40 in a Limit of 100.
func TestForgetting(t *testing.T) {
	a, b, c := sized("a", 20, 1), sized("b", 30, 2), sized("c", 40, 3)
	s := impl.Store{Limit: 100, Next: 4, Items: []impl.Item{a, b, c}}
	for _, f := range []struct{ charge, lost int }{
		{11, 1}, {12, 1}, {29, 1}, {30, 1}, {31, 2}, {60, 2}, {61, 3}, {99, 3}, {100, 3},
	} {
		d := sized("d", f.charge, 4)
		left := append(slices.Clone(s.Items[f.lost:]), d)
		wantDone(t, s, 0, setOf(d), impl.Store{Limit: 100, Next: 5, Items: left}, "STORED\r\n", f.lost)
		quiet := setOf(d)
		quiet.Quiet = true
		wantDone(t, s, 0, quiet, impl.Store{Limit: 100, Next: 5, Items: left}, "", f.lost)
	}
	roomy := s
	roomy.Limit = 110
	d := sized("d", 20, 4)
	wantDone(t, roomy, 0, setOf(d), impl.Store{Limit: 110, Next: 5, Items: []impl.Item{a, b, c, d}}, "STORED\r\n", 0)
	d = sized("d", 21, 4)
	wantDone(t, roomy, 0, setOf(d), impl.Store{Limit: 110, Next: 5, Items: []impl.Item{b, c, d}}, "STORED\r\n", 1)
}

// The item's own old charge counts no more when it is stored anew.
func TestForgettingBesideItself(t *testing.T) {
	a, b, c := sized("a", 20, 1), sized("b", 30, 2), sized("c", 50, 3)
	s := impl.Store{Limit: 100, Next: 4, Items: []impl.Item{a, b, c}}
	wantDone(t, s, 0, setOf(sized("c", 50, 4)), impl.Store{Limit: 100, Next: 5, Items: []impl.Item{a, b, sized("c", 50, 4)}}, "STORED\r\n", 0)
	wantDone(t, s, 0, setOf(sized("c", 51, 4)), impl.Store{Limit: 100, Next: 5, Items: []impl.Item{b, sized("c", 51, 4)}}, "STORED\r\n", 1)
	wantDone(t, s, 0, setOf(sized("a", 21, 4)), impl.Store{Limit: 100, Next: 5, Items: []impl.Item{c, sized("a", 21, 4)}}, "STORED\r\n", 1)
	wantDone(t, s, 0, setOf(sized("a", 51, 4)), impl.Store{Limit: 100, Next: 5, Items: []impl.Item{sized("a", 51, 4)}}, "STORED\r\n", 2)
	grown := sized("a", 21, 4)
	wantDone(t, s, 0, impl.Cmd{Name: "append", Keys: []string{"a"}, Data: "s"}, impl.Store{Limit: 100, Next: 5, Items: []impl.Item{c, grown}}, "STORED\r\n", 1)
	wantDone(t, s, 0, impl.Cmd{Name: "prepend", Keys: []string{"a"}, Data: "s"}, impl.Store{Limit: 100, Next: 5, Items: []impl.Item{c, grown}}, "STORED\r\n", 1)
	wantDone(t, s, 0, impl.Cmd{Name: "cas", Keys: []string{"a"}, Number: 1, Data: grown.Data}, impl.Store{Limit: 100, Next: 5, Items: []impl.Item{c, grown}}, "STORED\r\n", 1)
}

func TestCountingForgets(t *testing.T) {
	n := impl.Item{Key: "n", Flags: 3, Data: "9", Until: 70, Token: 2}
	a := sized("a", 20, 1)
	s := impl.Store{Limit: 32, Next: 3, Items: []impl.Item{a, n}}
	n.Data, n.Token = "10", 3
	wantDone(t, s, 0, impl.Cmd{Name: "incr", Keys: []string{"n"}, Number: 1}, impl.Store{Limit: 32, Next: 4, Items: []impl.Item{n}}, "10\r\n", 1)
	n.Data = "8"
	wantDone(t, s, 0, impl.Cmd{Name: "decr", Keys: []string{"n"}, Number: 1}, impl.Store{Limit: 32, Next: 4, Items: []impl.Item{a, n}}, "8\r\n", 0)
	only := impl.Store{Limit: 12, Next: 3, Items: []impl.Item{{Key: "n", Data: "9", Token: 2}}}
	wantDone(t, only, 0, impl.Cmd{Name: "incr", Keys: []string{"n"}, Number: 1}, only, "SERVER_ERROR full\r\n", 0)
	wantDone(t, only, 0, impl.Cmd{Name: "incr", Keys: []string{"n"}, Number: 1, Quiet: true}, only, "", 0)
}

// What is used is no longer the one to go first, whichever way it was used.
func TestUsedLongestAgoGoesFirst(t *testing.T) {
	a, b := sized("a", 20, 1), sized("b", 20, 2)
	b.Data = "1234567890"[:9]
	a.Data = b.Data
	s := impl.Store{Limit: 40, Next: 3, Items: []impl.Item{a, b}}
	k := []string{"a"}
	for _, use := range []struct {
		cmd   impl.Cmd
		loses string
	}{
		{impl.Cmd{Name: "get", Keys: k}, "b"}, {impl.Cmd{Name: "gets", Keys: k}, "b"}, {impl.Cmd{Name: "get", Keys: []string{"b", "a"}}, "b"},
		{impl.Cmd{Name: "get", Keys: []string{"a", "b"}}, "a"}, {impl.Cmd{Name: "get", Keys: []string{"a", "b", "a"}}, "b"},
		{impl.Cmd{Name: "touch", Keys: k}, "b"}, {impl.Cmd{Name: "touch", Keys: k, Expire: 9}, "b"},
		{impl.Cmd{Name: "set", Keys: k, Data: a.Data}, "b"}, {impl.Cmd{Name: "replace", Keys: k, Data: a.Data}, "b"},
		{impl.Cmd{Name: "append", Keys: k}, "b"}, {impl.Cmd{Name: "prepend", Keys: k}, "b"}, {impl.Cmd{Name: "incr", Keys: k}, "b"}, {impl.Cmd{Name: "decr", Keys: k}, "b"},
		{impl.Cmd{Name: "cas", Keys: k, Number: 1, Data: a.Data}, "b"},
		{impl.Cmd{Name: "cas", Keys: k, Number: 2, Data: a.Data}, "a"}, {impl.Cmd{Name: "add", Keys: k}, "a"}, {impl.Cmd{Name: "append", Keys: k, Data: strings.Repeat("x", 92)}, "a"},
		{impl.Cmd{Name: "set", Keys: k, Data: strings.Repeat("x", 30)}, "a"}, {impl.Cmd{Name: "get", Keys: []string{"c"}}, "a"}, {impl.Cmd{Name: "version"}, "a"},
	} {
		then, _, lost := done(t, s, 5, use.cmd)
		if lost != 0 {
			t.Errorf("%+v forgot %d", use.cmd, lost)
		}
		then, _, lost = done(t, then, 5, setOf(sized("c", 11, 0)))
		if _, there := impl.FindItem(then, 5, use.loses); there || lost != 1 || len(then.Items) != 2 {
			t.Errorf("behind %+v %s is not the one that goes: %+v", use.cmd, use.loses, then)
		}
	}
}

func TestMostItems(t *testing.T) {
	s := fullStore()
	s.Limit = impl.MaxLimit
	fresh := impl.Item{Key: "k", Token: s.Next}
	want := impl.Store{Limit: impl.MaxLimit, Next: s.Next + 1, Items: append(slices.Clone(s.Items[1:]), fresh)}
	wantDone(t, s, 0, setOf(fresh), want, "STORED\r\n", 1)
	again := impl.Item{Key: "00", Data: "more", Token: s.Next}
	want.Items = append(slices.Clone(s.Items[1:]), again)
	wantDone(t, s, 0, setOf(again), want, "STORED\r\n", 0)
	less := s
	less.Items = s.Items[1:]
	want.Items = append(slices.Clone(less.Items), fresh)
	wantDone(t, less, 0, setOf(fresh), want, "STORED\r\n", 0)
	tight := fullStore()
	big := sized("k", 25, tight.Next)
	want = impl.Store{Limit: tight.Limit, Next: tight.Next + 1, Items: append(slices.Clone(tight.Items[3:]), big)}
	wantDone(t, tight, 0, setOf(big), want, "STORED\r\n", 3)
}

// An item whose charge alone is above Limit is refused, and what has its key stays where it is.
func TestTooGreatForLimit(t *testing.T) {
	a, b := sized("a", 20, 1), sized("b", 20, 2)
	s := impl.Store{Limit: 50, Next: 3, Items: []impl.Item{a, b}}
	k := []string{"a"}
	for _, c := range []impl.Cmd{
		{Name: "set", Keys: k, Data: strings.Repeat("x", 40)}, {Name: "set", Keys: []string{"new"}, Data: strings.Repeat("x", 38)},
		{Name: "set", Keys: k, Data: strings.Repeat("x", 100)},
		{Name: "add", Keys: []string{"new"}, Data: strings.Repeat("x", 38)}, {Name: "replace", Keys: k, Data: strings.Repeat("x", 40)},
		{Name: "cas", Keys: k, Number: 1, Data: strings.Repeat("x", 40)},
		{Name: "append", Keys: k, Data: strings.Repeat("x", 31)}, {Name: "prepend", Keys: k, Data: strings.Repeat("x", 91)},
	} {
		wantDone(t, s, 0, c, s, "SERVER_ERROR full\r\n", 0)
		c.Quiet = true
		wantDone(t, s, 0, c, s, "", 0)
	}
	met := impl.Item{Key: "a", Data: strings.Repeat("x", 39), Token: 3}
	wantDone(t, s, 0, setOf(met), impl.Store{Limit: 50, Next: 4, Items: []impl.Item{met}}, "STORED\r\n", 1)
	grown := impl.Item{Key: "a", Data: a.Data + strings.Repeat("x", 30), Token: 3}
	wantDone(t, s, 0, impl.Cmd{Name: "append", Keys: k, Data: strings.Repeat("x", 30)}, impl.Store{Limit: 50, Next: 4, Items: []impl.Item{grown}}, "STORED\r\n", 1)
	// Longer than MaxValue and than Limit: what is large is told first.
	wantDone(t, s, 0, impl.Cmd{Name: "append", Keys: k, Data: strings.Repeat("x", 92)}, s, "SERVER_ERROR large\r\n", 0)
	for limit := range 11 {
		none := impl.Store{Limit: limit, Next: 1}
		wantDone(t, none, 0, impl.Cmd{Name: "set", Keys: k}, none, "SERVER_ERROR full\r\n", 0)
		wantDone(t, none, 0, impl.Cmd{Name: "add", Keys: k}, none, "SERVER_ERROR full\r\n", 0)
		wantDone(t, none, 0, impl.Cmd{Name: "replace", Keys: k}, none, "NOT_STORED\r\n", 0)
	}
	wantDone(t, impl.Store{Limit: 11, Next: 1}, 0, impl.Cmd{Name: "set", Keys: k}, impl.Store{Limit: 11, Next: 2, Items: []impl.Item{{Key: "a", Token: 1}}}, "STORED\r\n", 0)
}

// At the last Next nothing is stored any more; what stores nothing goes on.
func TestNextAtItsEnd(t *testing.T) {
	n := impl.Item{Key: "n", Data: "5", Token: 7}
	s := impl.Store{Limit: 100, Next: mostTokens, Items: []impl.Item{{Key: "a", Data: "x", Token: 3}, n}}
	a := []string{"a"}
	for _, c := range []impl.Cmd{
		{Name: "set", Keys: a}, {Name: "set", Keys: []string{"z"}}, {Name: "add", Keys: []string{"z"}}, {Name: "replace", Keys: a},
		{Name: "append", Keys: a}, {Name: "prepend", Keys: a}, {Name: "cas", Keys: a, Number: 3}, {Name: "incr", Keys: []string{"n"}}, {Name: "decr", Keys: []string{"n"}},
	} {
		wantDone(t, s, 0, c, s, "SERVER_ERROR full\r\n", 0)
	}
	for answer, c := range map[string]impl.Cmd{
		"NOT_STORED\r\n":       {Name: "add", Keys: a},
		"EXISTS\r\n":           {Name: "cas", Keys: a, Number: 4},
		"NOT_FOUND\r\n":        {Name: "incr", Keys: []string{"z"}},
		"CLIENT_ERROR bad\r\n": {Name: "incr", Keys: a},
	} {
		wantDone(t, s, 0, c, s, answer, 0)
	}
	wantDone(t, s, 0, impl.Cmd{Name: "get", Keys: []string{"n"}}, s, "VALUE n 0 1\r\n5\r\nEND\r\n", 0)
	wantDone(t, s, 0, impl.Cmd{Name: "touch", Keys: []string{"n"}}, s, "TOUCHED\r\n", 0)
	wantDone(t, s, 0, impl.Cmd{Name: "flush_all"}, impl.Store{Limit: 100, Next: mostTokens}, "OK\r\n", 0)
	s.Next--
	last := impl.Item{Key: "a", Token: mostTokens - 1}
	wantDone(t, s, 0, impl.Cmd{Name: "set", Keys: a}, impl.Store{Limit: 100, Next: mostTokens, Items: []impl.Item{n, last}}, "STORED\r\n", 0)
}
