package tests

import (
	"strings"
	"testing"

	"loop.example/g00170/impl"
)

// clusterStep is a command on the item {k, 3, "5", for good, token 4} at the
// time 10 with the Next 20: its answer, what has the key then, and how far Next goes.
type clusterStep struct {
	cmd    impl.Cmd
	answer string
	has    []impl.Item
	next   int
}

func clusterSteps(k string) []clusterStep {
	keys := []string{k}
	as := func(flags int, data string, until, token int) []impl.Item {
		return []impl.Item{{Key: k, Flags: flags, Data: data, Until: until, Token: token}}
	}
	same := as(3, "5", 0, 4)
	storing := func(name string) impl.Cmd {
		return impl.Cmd{Name: name, Keys: keys, Flags: 1, Expire: 5, Data: "67"}
	}
	cas := func(number int) impl.Cmd {
		c := storing("cas")
		c.Number = number
		return c
	}
	long := storing("append")
	long.Data = strings.Repeat("6", impl.MaxValue)
	return []clusterStep{
		{impl.Cmd{Name: "get", Keys: keys}, "VALUE " + k + " 3 1\r\n5\r\nEND\r\n", same, 20},
		{impl.Cmd{Name: "gets", Keys: keys}, "VALUE " + k + " 3 1 4\r\n5\r\nEND\r\n", same, 20},
		{storing("set"), "STORED\r\n", as(1, "67", 15, 20), 21},
		{storing("add"), "NOT_STORED\r\n", same, 20},
		{storing("replace"), "STORED\r\n", as(1, "67", 15, 20), 21},
		{storing("append"), "STORED\r\n", as(3, "567", 0, 20), 21},
		{storing("prepend"), "STORED\r\n", as(3, "675", 0, 20), 21},
		{long, "SERVER_ERROR large\r\n", same, 20},
		{cas(4), "STORED\r\n", as(1, "67", 15, 20), 21},
		{cas(20), "EXISTS\r\n", same, 20},
		{impl.Cmd{Name: "incr", Keys: keys, Number: 9}, "14\r\n", as(3, "14", 0, 20), 21},
		{impl.Cmd{Name: "decr", Keys: keys, Number: 9}, "0\r\n", as(3, "0", 0, 20), 21},
		{impl.Cmd{Name: "touch", Keys: keys, Expire: 7}, "TOUCHED\r\n", as(3, "5", 17, 4), 20},
		{impl.Cmd{Name: "touch", Keys: keys}, "TOUCHED\r\n", same, 20},
		{impl.Cmd{Name: "delete", Keys: keys}, "DELETED\r\n", nil, 20},
		{impl.Cmd{Name: "version"}, "VERSION 1\r\n", same, 20},
		{impl.Cmd{Name: "quit"}, "", same, 20},
	}
}

// mayBeQuiet says of which names the word noreply is.
func mayBeQuiet(name string) bool {
	return !strings.Contains(" get gets flush_all version quit ", " "+name+" ")
}

func inCluster(t *testing.T, c impl.Cluster, step clusterStep, at string, others []impl.Item) {
	t.Helper()
	then := wantDoneIn(t, c, step.cmd, step.answer)
	wantItemsAt(t, step.cmd.Name, then, at, append(others, step.has...)...)
	if then.Next != step.next || then.Lost != c.Lost || then.Now != c.Now {
		t.Errorf("%s: the cluster is %+v", step.cmd.Name, then)
	}
	if mayBeQuiet(step.cmd.Name) {
		cmd := step.cmd
		cmd.Quiet = true
		quiet := wantDoneIn(t, c, cmd, "")
		wantCluster(t, "quiet "+cmd.Name, quiet, then)
	}
}

// Every name, in a cluster that does not move: the owner's store does it.
func TestEachCommandAtRest(t *testing.T) {
	for _, k := range []string{"k1", "k2"} {
		at := owner(t, twoNodes(), k)
		for _, step := range clusterSteps(k) {
			other := map[string][]impl.Item{"a": {val("k3", 6)}, "b": {val("foo", 7)}}
			mine := other[at]
			other[at] = append([]impl.Item{}, mine[0], impl.Item{Key: k, Flags: 3, Data: "5", Token: 4})
			c := placed(twoNodes(), nil, 1000, 20, other)
			c.Now = 10
			inCluster(t, c, step, at, mine)
		}
	}
}

// Every name, in a cluster that moves: the key is at its owner in Coming then, at the old one no more; what has no key moves nothing.
func TestEachCommandWhileMoving(t *testing.T) {
	for _, way := range [][2]string{{"a", "b"}, {"a", "c"}, {"b", "b"}, {"b", "c"}} {
		k := keysGoing(twoNodes(), laterNodes(), way[0], way[1], 3)[2]
		other := map[string][]impl.Item{"a": {val(going("a", "b"), 6)}, "b": {val(going("b", "c"), 7)}, "c": {val(going("a", "c"), 8)}}
		for _, step := range clusterSteps(k) {
			items := map[string][]impl.Item{"a": other["a"], "b": other["b"], "c": other["c"]}
			items[way[0]] = append([]impl.Item{}, other[way[0]][0], impl.Item{Key: k, Flags: 3, Data: "5", Token: 4})
			c := placed(twoNodes(), laterNodes(), 1000, 20, items)
			c.Now = 10
			at := way[1]
			if len(step.cmd.Keys) == 0 {
				at = way[0]
			}
			inCluster(t, c, step, at, other[at])
			then, _ := doneIn(t, c, step.cmd)
			for _, name := range []string{"a", "b", "c"} {
				if name != at {
					wantItemsAt(t, step.cmd.Name, then, name, other[name]...)
				}
			}
		}
	}
}

func TestCommandsOnWhatIsNotThere(t *testing.T) {
	for _, c := range []impl.Cluster{atRest(), halfMoved()} {
		last := c.Nodes
		if len(c.Coming) > 0 {
			last = c.Coming
		}
		for _, k := range []string{"none", "nobody", "x", "y", "z"} {
			at := ownerMemo(last, k)
			before := storeAt(t, c, at).Items
			for name, answer := range map[string]string{
				"get": "END\r\n", "gets": "END\r\n", "replace": "NOT_STORED\r\n", "append": "NOT_STORED\r\n", "prepend": "NOT_STORED\r\n",
				"cas": "NOT_FOUND\r\n", "incr": "NOT_FOUND\r\n", "decr": "NOT_FOUND\r\n", "touch": "NOT_FOUND\r\n", "delete": "NOT_FOUND\r\n",
			} {
				then := wantDoneIn(t, c, impl.Cmd{Name: name, Keys: []string{k}}, answer)
				wantItemsAt(t, name, then, at, before...)
				if then.Next != c.Next {
					t.Errorf("%s: Next is %d", name, then.Next)
				}
			}
			for _, name := range []string{"set", "add"} {
				then := wantDoneIn(t, c, impl.Cmd{Name: name, Keys: []string{k}, Data: "v"}, "STORED\r\n")
				wantItemsAt(t, name, then, at, append(append([]impl.Item{}, before...), impl.Item{Key: k, Data: "v", Token: c.Next})...)
				wantPlaces(t, then, k, at)
			}
		}
	}
}

// All places are flushed, those that go and those that come; nothing counts as lost.
func TestFlushAllPlaces(t *testing.T) {
	for _, c := range []impl.Cluster{atRest(), halfMoved()} {
		want := copyOfCluster(c)
		for i := range want.Places {
			want.Places[i].Store.Items = nil
		}
		wantCluster(t, "flush_all", wantDoneIn(t, c, impl.Cmd{Name: "flush_all"}, "OK\r\n"), want)
	}
}

// Several keys at several nodes: told in the order of the keys, as often as they stand; each is then the one used last at its place.
func TestGetAtManyNodes(t *testing.T) {
	c := atRest()
	for _, token := range withAndWithout {
		then := wantDoneIn(t, c, askFor([]string{"foo", "k1", "none", "k2", "k3", "foo"}, token),
			textOf(t, token, val("foo", 5), val("k1", 3), val("k2", 2), val("k3", 1), val("foo", 5)))
		wantItemsAt(t, "get", then, "a", val("k1", 3), val("k3", 1))
		wantItemsAt(t, "get", then, "b", val("k2", 2), val("foo", 5))
		then = wantDoneIn(t, c, askFor([]string{"k3", "k2", "k1", "k2"}, token), textOf(t, token, val("k3", 1), val("k2", 2), val("k1", 3), val("k2", 2)))
		wantItemsAt(t, "get", then, "a", val("k3", 1), val("k1", 3))
		wantItemsAt(t, "get", then, "b", val("foo", 5), val("k2", 2))
	}
}

// While it moves all that is asked for is told alike, wherever it stands, and has come then.
func TestGetAtManyNodesWhileMoving(t *testing.T) {
	c := halfMoved()
	var keys []string
	for _, it := range itemsIn(c) {
		keys = append(keys, it.Key)
	}
	left := []impl.Item{c.Places[0].Store.Items[0], c.Places[0].Store.Items[1], c.Places[1].Store.Items[1]}
	for _, token := range withAndWithout {
		then := wantDoneIn(t, c, askFor(keys, token), textOf(t, token, itemsIn(c)...))
		wantItemsAt(t, "get", then, "a")
		wantWhereTheyBelong(t, then, keys)
		wantItemsAt(t, "get", then, "b", left[0], c.Places[1].Store.Items[0], c.Places[1].Store.Items[2])
		wantItemsAt(t, "get", then, "c", left[1], left[2], c.Places[2].Store.Items[0], c.Places[2].Store.Items[1])
		some := []string{keys[3], keys[3], keys[0]}
		then = wantDoneIn(t, c, askFor(some, token), textOf(t, token, left[2], left[2], left[0]))
		wantItemsAt(t, "some", then, "a", left[1])
		wantItemsAt(t, "some", then, "b", c.Places[1].Store.Items[0], c.Places[1].Store.Items[2], left[0])
		wantItemsAt(t, "some", then, "c", c.Places[2].Store.Items[0], c.Places[2].Store.Items[1], left[2])
	}
}

// Tokens are one row over all nodes: Next goes on, whichever node stores, and only by what is stored.
func TestTokensAreOneRow(t *testing.T) {
	c := newCluster(t, twoNodes(), 1000)
	keys := []string{"k1", "k2", "foo", "k3", "k1", "bar", "user:17"}
	for i, k := range keys {
		c = wantDoneIn(t, c, setOf(val(k, 0)), "STORED\r\n")
		if it, _ := impl.FindItem(storeAt(t, c, owner(t, twoNodes(), k)), 0, k); it.Token != i+1 || c.Next != i+2 {
			t.Errorf("%s has the token %d; Next is %d", k, it.Token, c.Next)
		}
		c = wantDoneIn(t, c, impl.Cmd{Name: "add", Keys: []string{k}}, "NOT_STORED\r\n")
		c = wantDoneIn(t, c, impl.Cmd{Name: "incr", Keys: []string{k}}, "CLIENT_ERROR bad\r\n")
	}
	c = begun(t, c, laterNodes())
	for i, k := range []string{"k1", "k2", "foo", "new"} {
		c = wantDoneIn(t, c, setOf(val(k, 0)), "STORED\r\n")
		if it, _ := impl.FindItem(storeAt(t, c, owner(t, laterNodes(), k)), 0, k); it.Token != 8+i || c.Next != 9+i {
			t.Errorf("%s has the token %d; Next is %d", k, it.Token, c.Next)
		}
	}
}

// A place's own Next is of no weight for what is stored, and stays good: above each token that has come, at most the cluster's.
func TestNextOfAPlace(t *testing.T) {
	k, l := going("a", "c"), keysGoing(twoNodes(), laterNodes(), "b", "c", 1)[0]
	c := placed(twoNodes(), nil, 1000, 1, nil)
	c = wantDoneIn(t, c, setOf(val(l, 0)), "STORED\r\n")
	c = wantDoneIn(t, c, setOf(val(k, 0)), "STORED\r\n")
	c = wantDoneIn(t, begun(t, c, laterNodes()), askFor([]string{k}, true), textOf(t, true, impl.Item{Key: k, Flags: 1, Data: "data 00", Token: 2}))
	c = wantDoneIn(t, c, askFor([]string{l}, true), textOf(t, true, impl.Item{Key: l, Flags: 1, Data: "data 00", Token: 1}))
	if next := storeAt(t, c, "c").Next; next <= 2 || next > c.Next {
		t.Error(next)
	}
	c = wantDoneIn(t, c, setOf(val(l, 0)), "STORED\r\n")
	if next := storeAt(t, c, "c").Next; next != 4 || c.Next != 4 {
		t.Error(next, c.Next)
	}
}

// What a key is moved for may leave the item as it is: it has its own token still, and stands last.
func TestAMovedKeyIsPutLast(t *testing.T) {
	for _, to := range []string{"b", "c"} {
		ks := keysGoing(twoNodes(), laterNodes(), "a", to, 5)
		stands := []impl.Item{val(ks[0], 9), val(ks[1], 11)}
		left := []impl.Item{val(ks[2], 3), val(ks[3], 4), val(ks[4], 5)}
		c := placed(twoNodes(), laterNodes(), 1000, 20, map[string][]impl.Item{"a": left, to: stands})
		for _, cmd := range []impl.Cmd{
			{Name: "add", Keys: ks[3:4]}, {Name: "add", Keys: ks[3:4], Quiet: true}, {Name: "cas", Keys: ks[3:4], Number: 20}, {Name: "incr", Keys: ks[3:4]},
		} {
			then, _ := doneIn(t, c, cmd)
			wantItemsAt(t, cmd.Name, then, "a", left[0], left[2])
			wantItemsAt(t, cmd.Name, then, to, stands[0], stands[1], left[1])
			wantPlaces(t, then, ks[3], to)
			if then.Next != 20 || then.Lost != 0 {
				t.Error(then)
			}
		}
	}
}

func TestWrongCommandsOfACluster(t *testing.T) {
	for _, c := range []impl.Cluster{atRest(), halfMoved()} {
		for _, cmd := range []impl.Cmd{
			{}, {Name: "GET", Keys: []string{"k1"}}, {Name: "get"}, {Name: "get", Keys: manyKeys(impl.MaxKeys+1, 1)}, {Name: "get", Keys: []string{"k1", ""}},
			{Name: "get", Keys: []string{"k1"}, Quiet: true}, {Name: "get", Keys: []string{"a b"}}, {Name: "gets", Keys: []string{key(impl.MaxKey + 1)}},
			{Name: "set", Keys: []string{"k1", "k2"}}, {Name: "set", Keys: []string{"k1"}, Flags: -1}, {Name: "set", Keys: []string{"k1"}, Expire: impl.MaxNumber + 1},
			{Name: "set", Keys: []string{"k1"}, Data: key(impl.MaxValue + 1)}, {Name: "incr", Keys: []string{"k1"}, Number: -1}, {Name: "delete"},
			{Name: "touch", Keys: []string{"k1"}, Number: 1}, {Name: "version", Keys: []string{"k1"}}, {Name: "flush_all", Quiet: true}, {Name: "quit", Data: "x"},
		} {
			wantNoDo(t, "a wrong command", c, cmd)
		}
	}
}
