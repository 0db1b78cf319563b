package tests

import (
	"slices"
	"testing"

	"loop.example/g00170/impl"
)

// toC are so many keys that are moved from a to c.
func toC(many int) []string {
	return keysGoing(twoNodes(), laterNodes(), "a", "c", many)
}

// moveBy are commands that move a key and do nothing more to its item, and the way of CopySome.
func moveBy(t *testing.T, k string) map[string]func(impl.Cluster) impl.Cluster {
	do := func(cmd impl.Cmd) func(impl.Cluster) impl.Cluster {
		return func(c impl.Cluster) impl.Cluster {
			t.Helper()
			then, _ := doneIn(t, c, cmd)
			return then
		}
	}
	return map[string]func(impl.Cluster) impl.Cluster{
		"get": do(askFor([]string{k}, false)),
		"add": do(impl.Cmd{Name: "add", Keys: []string{k}, Quiet: true}),
		"cas": do(impl.Cmd{Name: "cas", Keys: []string{k}, Number: mostTokens}),
		"copy": func(c impl.Cluster) impl.Cluster {
			t.Helper()
			then, moved := copied(t, c, 1)
			if moved != 1 {
				t.Errorf("%d were moved", moved)
			}
			return then
		},
	}
}

// As many go as must, from the front: of three charges of 20, 30 and 40 at c in a Limit of 100, for an item of each charge up to the Limit itself.
func TestAMoveForgets(t *testing.T) {
	ks := toC(4)
	stand := []impl.Item{sized(ks[0], 20, 4), sized(ks[1], 30, 2), sized(ks[2], 40, 9)}
	for _, f := range []struct{ charge, lost int }{
		{13, 1}, {29, 1}, {30, 1}, {31, 2}, {60, 2}, {61, 3}, {99, 3}, {100, 3},
	} {
		it := sized(ks[3], f.charge, 7)
		c := placed(twoNodes(), laterNodes(), 100, 20, map[string][]impl.Item{"a": {it}, "c": stand})
		c.Lost = 5
		for what, move := range moveBy(t, ks[3]) {
			then := move(c)
			wantItemsAt(t, what, then, "a")
			wantItemsAt(t, what, then, "c", append(slices.Clone(stand[f.lost:]), it)...)
			if then.Lost != 5+f.lost || then.Next != 20 {
				t.Errorf("%s of the charge %d: lost %d, Next %d", what, f.charge, then.Lost, then.Next)
			}
		}
	}
	c := placed(twoNodes(), laterNodes(), 110, 20, map[string][]impl.Item{"a": {sized(ks[3], 20, 7)}, "c": stand})
	for what, move := range moveBy(t, ks[3]) {
		if then := move(c); then.Lost != 0 || len(storeAt(t, then, "c").Items) != 4 {
			t.Errorf("%s: with room for all, %d were lost", what, then.Lost)
		}
	}
}

// No item of a good cluster is above the Limit, since all stores have the same
// one: one that is makes the cluster none. The greatest that is good stays.
func TestAnItemAboveTheLimit(t *testing.T) {
	k := toC(1)[0]
	above := placed(twoNodes(), laterNodes(), 99, 20, map[string][]impl.Item{"a": {sized(k, 100, 7)}})
	wantNoCluster(t, "an item above the limit", above)
	met := placed(twoNodes(), laterNodes(), 100, 20, map[string][]impl.Item{"a": {sized(k, 100, 7)}})
	for what, move := range moveBy(t, k) {
		then := move(met)
		wantItemsAt(t, what, then, "c", sized(k, 100, 7))
		if then.Lost != 0 {
			t.Errorf("%s: %d were lost", what, then.Lost)
		}
	}
}

// A place of MaxItems forgets one for each that comes, however small they are.
func TestAMoveToAPlaceOfMaxItems(t *testing.T) {
	ks := toC(impl.MaxItems + 2)
	var stand []impl.Item
	for i, k := range ks[:impl.MaxItems] {
		stand = append(stand, impl.Item{Key: k, Token: i + 1})
	}
	come := []impl.Item{val(ks[impl.MaxItems], 70), val(ks[impl.MaxItems+1], 71)}
	c := placed(twoNodes(), laterNodes(), impl.MaxLimit, 100, map[string][]impl.Item{"a": come, "c": stand})
	for what, move := range moveBy(t, come[0].Key) {
		then := move(c)
		wantItemsAt(t, what, then, "c", append(slices.Clone(stand[1:]), come[0])...)
		if then.Lost != 1 {
			t.Errorf("%s: %d were lost", what, then.Lost)
		}
	}
	then, moved := copied(t, c, mostCopied)
	wantItemsAt(t, "both", then, "c", append(slices.Clone(stand[2:]), come...)...)
	if moved != 2 || then.Lost != 2 {
		t.Error(moved, then.Lost)
	}
	less := copyOfCluster(c)
	less.Places[2].Store.Items = less.Places[2].Store.Items[1:]
	for what, move := range moveBy(t, come[0].Key) {
		if then := move(less); then.Lost != 0 {
			t.Errorf("%s: with room for one, %d were lost", what, then.Lost)
		}
	}
}

// All keys are moved, in order, ahead of what is asked: the second one may push the first one out, or one that is told later.
func TestMovesAheadOfTheAnswer(t *testing.T) {
	ks := toC(3)
	x, y, z := sized(ks[0], 60, 3), sized(ks[1], 60, 4), sized(ks[2], 30, 5)
	c := placed(twoNodes(), laterNodes(), 100, 20, map[string][]impl.Item{"a": {z}, "c": {x}})
	then := wantDoneIn(t, c, askFor([]string{x.Key, z.Key, x.Key}, true), textOf(t, true, x, z, x))
	wantItemsAt(t, "both have room", then, "c", z, x)
	c = placed(twoNodes(), laterNodes(), 100, 20, map[string][]impl.Item{"a": {y, z}, "c": {x}})
	then = wantDoneIn(t, c, askFor([]string{x.Key, y.Key, z.Key, y.Key}, true), textOf(t, true, y, z, y))
	wantItemsAt(t, "y pushes x out", then, "c", z, y)
	if then.Lost != 1 {
		t.Error(then.Lost)
	}
	y = sized(going("b", "c"), 60, 4)
	c = placed(twoNodes(), laterNodes(), 100, 20, map[string][]impl.Item{"a": {x}, "b": {y}})
	then = wantDoneIn(t, c, askFor([]string{y.Key, x.Key}, false), textOf(t, false, x))
	wantItemsAt(t, "x pushes y out", then, "c", x)
	then = wantDoneIn(t, c, askFor([]string{x.Key, y.Key}, false), textOf(t, false, y))
	wantItemsAt(t, "y pushes x out", then, "c", y)
	wantPlaces(t, then, x.Key)
}

// A move and what is stored both forget, and both count.
func TestAMoveAndAStoreForget(t *testing.T) {
	ks := toC(3)
	c := placed(twoNodes(), laterNodes(), 100, 20, map[string][]impl.Item{"a": {sized(ks[0], 50, 1)}, "c": {sized(ks[1], 60, 2), sized(ks[2], 40, 3)}})
	then := wantDoneIn(t, c, setOf(sized(ks[0], 61, 0)), "STORED\r\n")
	wantItemsAt(t, "set", then, "c", sized(ks[0], 61, 20))
	if then.Lost != 2 || then.Next != 21 {
		t.Error(then.Lost, then.Next)
	}
	rest := placed(twoNodes(), nil, 100, 20, map[string][]impl.Item{"a": {sized("k1", 50, 1)}, "b": {sized("k2", 60, 2), sized("foo", 40, 3)}})
	then = wantDoneIn(t, rest, setOf(sized("bar", 70, 0)), "STORED\r\n")
	wantItemsAt(t, "at rest", then, "b", sized("bar", 70, 20))
	wantItemsAt(t, "at rest", then, "a", sized("k1", 50, 1))
	if then.Lost != 2 {
		t.Error(then.Lost)
	}
}

// What can't be stored at all is told; the key is moved all the same, and nothing is lost.
func TestFullInACluster(t *testing.T) {
	ks := toC(2)
	it, stands := sized(ks[0], 50, 1), sized(ks[1], 30, 2)
	for _, next := range []int{20, mostTokens} {
		c := placed(twoNodes(), laterNodes(), 100, next, map[string][]impl.Item{"a": {it}, "c": {stands}})
		cmd := setOf(sized(ks[0], 101, 0))
		if next == mostTokens {
			cmd = setOf(sized(ks[0], 20, 0))
		}
		then := wantDoneIn(t, c, cmd, "SERVER_ERROR full\r\n")
		wantItemsAt(t, "full", then, "c", stands, it)
		wantItemsAt(t, "full", then, "a")
		if then.Next != next || then.Lost != 0 {
			t.Error(then.Next, then.Lost)
		}
		cmd.Quiet = true
		wantCluster(t, "quiet", wantDoneIn(t, c, cmd, ""), then)
	}
	none := newCluster(t, twoNodes(), 0)
	wantCluster(t, "limit 0", wantDoneIn(t, none, setOf(val("k1", 0)), "SERVER_ERROR full\r\n"), none)
}

func TestLostAtItsEnd(t *testing.T) {
	ks := toC(4)
	stand := []impl.Item{sized(ks[0], 40, 1), sized(ks[1], 30, 2), sized(ks[2], 30, 3)}
	for _, f := range []struct{ lost, charge, then int }{
		{mostLost - 3, 100, mostLost}, {mostLost - 3, 60, mostLost - 1}, {mostLost - 2, 60, mostLost}, {mostLost - 2, 100, mostLost},
		{mostLost - 1, 20, mostLost}, {mostLost - 1, 100, mostLost}, {mostLost, 20, mostLost}, {mostLost, 100, mostLost},
	} {
		it := sized(ks[3], f.charge, 7)
		c := placed(twoNodes(), laterNodes(), 100, 20, map[string][]impl.Item{"a": {it}, "c": stand})
		c.Lost = f.lost
		for what, move := range moveBy(t, ks[3]) {
			if then := move(c); then.Lost != f.then {
				t.Errorf("%s at %d of the charge %d: %d are lost", what, f.lost, f.charge, then.Lost)
			}
		}
		c = placed(twoNodes(), laterNodes(), 100, 20, map[string][]impl.Item{"c": stand})
		c.Lost = f.lost
		if then := wantDoneIn(t, c, setOf(it), "STORED\r\n"); then.Lost != f.then {
			t.Errorf("set at %d of the charge %d: %d are lost", f.lost, f.charge, then.Lost)
		}
	}
}

// The last token may be given out; behind it nothing is stored any more, wherever; all else goes on.
func TestNextOfAClusterAtItsEnd(t *testing.T) {
	for _, c := range []impl.Cluster{atRest(), halfMoved()} {
		c.Next = mostTokens - 1
		c = wantDoneIn(t, c, setOf(val("k1", 0)), "STORED\r\n")
		if c.Next != mostTokens {
			t.Error(c.Next)
		}
		for _, k := range []string{"k1", "k2", "foo", "k9"} {
			c = wantDoneIn(t, c, setOf(val(k, 0)), "SERVER_ERROR full\r\n")
		}
		c = wantDoneIn(t, c, impl.Cmd{Name: "append", Keys: []string{"k1"}, Data: "x"}, "SERVER_ERROR full\r\n")
		k1 := val("k1", 0)
		k1.Token = mostTokens - 1
		c = wantDoneIn(t, c, askFor([]string{"k1"}, true), textOf(t, true, k1))
		c = wantDoneIn(t, c, impl.Cmd{Name: "touch", Keys: []string{"k1"}}, "TOUCHED\r\n")
		if len(c.Coming) > 0 {
			c, _ = copied(t, c, mostCopied)
			c = ended(t, c)
		} else {
			c, _ = copied(t, begun(t, c, laterNodes()), mostCopied)
			c = ended(t, c)
		}
		c = wantDoneIn(t, c, askFor([]string{"k1"}, true), textOf(t, true, k1))
		c = wantDoneIn(t, c, impl.Cmd{Name: "delete", Keys: []string{"k1"}}, "DELETED\r\n")
		if c.Next != mostTokens {
			t.Error(c.Next)
		}
	}
}

// What is old goes ahead of everything, in all places, whatever the command; it doesn't count as lost, and makes room.
func TestOldItemsInAllPlaces(t *testing.T) {
	old := func(it impl.Item, until int) impl.Item {
		it.Until = until
		return it
	}
	ks := toC(3)
	bs := keysGoing(twoNodes(), laterNodes(), "b", "b", 2)
	young := val(ks[1], 2)
	stays := old(sized(bs[1], 30, 4), 11)
	c := placed(twoNodes(), laterNodes(), 100, 20, map[string][]impl.Item{
		"a": {old(val(ks[0], 1), 10), young},
		"b": {old(val(bs[0], 3), 1), stays},
		"c": {old(sized(ks[2], 100, 5), 9)},
	})
	c.Now = 10
	for _, cmd := range []impl.Cmd{{Name: "version"}, {Name: "quit"}, {Name: "get", Keys: []string{"none"}}, {Name: "delete", Keys: []string{"none"}}} {
		then, _ := doneIn(t, c, cmd)
		wantItemsAt(t, cmd.Name, then, "a", young)
		wantItemsAt(t, cmd.Name, then, "b", stays)
		wantItemsAt(t, cmd.Name, then, "c")
	}
	then := wantDoneIn(t, c, askFor([]string{ks[0], ks[1], ks[2], bs[0]}, false), textOf(t, false, young))
	wantItemsAt(t, "get", then, "a")
	wantItemsAt(t, "get", then, "c", young)
	if then.Lost != 0 {
		t.Error(then.Lost)
	}
	wantDoneIn(t, c, impl.Cmd{Name: "replace", Keys: []string{ks[0]}}, "NOT_STORED\r\n")
	wantDoneIn(t, c, impl.Cmd{Name: "add", Keys: []string{ks[2]}}, "STORED\r\n")
	wantDoneIn(t, c, impl.Cmd{Name: "touch", Keys: []string{bs[0]}}, "NOT_FOUND\r\n")
	rest := atRest()
	rest.Places[0].Store.Items[1].Until, rest.Places[1].Store.Items[0].Until = 10, 3
	then = wantDoneIn(t, rest, askFor([]string{"k1", "k2", "k3", "foo"}, false), textOf(t, false, val("k1", 3), val("foo", 5)))
	wantItemsAt(t, "at rest", then, "a", val("k1", 3))
	wantItemsAt(t, "at rest", then, "b", val("foo", 5))
}
